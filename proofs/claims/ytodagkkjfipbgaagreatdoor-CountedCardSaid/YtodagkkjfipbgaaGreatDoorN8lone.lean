import Derived.Test.YtodagkkjfipbgaaGreatDoorN6toN0
namespace Go.Proofs.YtodagkkjfipbgaaGreatDoor
open Go.RowKit Go.Maps
def sptCells (X : List Spt) : List Value := X.flatMap spotCell
theorem sptCells_snoc (X : List Spt) (x : Spt) : sptCells (X ++ [x]) = sptCells X ++ spotCell x := by unfold sptCells; simp
theorem sptCells_at : ∀ (X : List Spt) (i : Nat) (x : Spt), (∀ y ∈ X, y.2.length = 4) → X[i]? = some x → ∀ o u, (spotCell x)[o]? = some u → (sptCells X)[i * 5 + o]? = some u := by
 intro X
 induction X with
 | nil => intro i x _ h; simp at h
 | cons a X ih =>
  intro i x hr h o u hu
  have hla : (spotCell a).length = 5 := by unfold spotCell; simp [hr a List.mem_cons_self]
  have e : sptCells (a :: X) = spotCell a ++ sptCells X := rfl
  have ho := (List.getElem?_eq_some_iff.1 hu).1
  cases i with
  | zero =>
   simp at h
   subst h
   rw [e, List.getElem?_append_left (by omega), show 0 * 5 + o = o from by omega]
   exact hu
  | succ i =>
   have := ih i x (fun r h => hr r (List.mem_cons_of_mem _ h)) (by simpa using h) o u hu
   rw [e, List.getElem?_append_right (by omega), hla, show (i + 1) * 5 + o - 5 = i * 5 + o from by omega]
   exact this
def FoundX (X : List Spt) (x : Spt) (X' : List Spt) (i : Nat) : Prop := (X' = X ∧ X[i]? = some x) ∨ (x ∉ X ∧ X' = X ++ [x] ∧ i = X.length)
structure Four (x : Spt) : Prop where
 len : x.2.length = 4
 lt : ∀ j v : Nat, x.2[j]? = some v → v < 20
theorem SOk4.four {lim : Nat → Nat} {n : Nat} {x : Spt} (h : SOk4 lim n x) : Four x := ⟨h.len, fun j v hv => (h.lt j v hv).1⟩
theorem sptV_inj {x y : Spt} (hx : Four x) (hy : Four y) (h : sptV x = sptV y) : x = y := by
 obtain ⟨b, l⟩ := x
 obtain ⟨b', l'⟩ := y
 obtain ⟨p, q, r, s, e1⟩ := Go.Proofs.YtodagkkjfipbgaaGreatDoor.four hx.len
 obtain ⟨p', q', r', s', e2⟩ := Go.Proofs.YtodagkkjfipbgaaGreatDoor.four hy.len
 simp only at e1 e2
 subst e1; subst e2
 obtain ⟨rfl, rfl, rfl, rfl, rfl⟩ := spt4_inj h
 rfl
theorem Tryz.zeroI (w : World) : (zeroValue 3).run Tryz.prog w = .ok (.int .i64 0) w := by kernel_rfl
theorem spot_one (x : Spt) : ∀ u ∈ spotCell x, u.oneCell' = true := spotCell_one x.1 x.2
theorem few4' {X : List Spt} (hn : X.Nodup) (h : ∀ x ∈ X, Four x) : X.length ≤ 320000 := few4 (lim := fun _ => 20) (n := 4) hn fun x hx => ⟨(h x hx).len, fun j v hv => ⟨(h x hx).lt j v hv, fun _ => (h x hx).lt j v hv⟩⟩
theorem lit_wf2 {a : Nat} (h : a ≤ 1000000) : (Lit.int .i64 (a : Int)).wf = true := by
 have e : IntKind.i64.min = -9223372036854775808 := by decide
 simp [Lit.wf, e]
 omega
theorem keyOf_pastS {x : Spt} (h : Four x) : ∃ l, keyOf Tryz.prog 243 (sptV x) = some l := by
 obtain ⟨b, l⟩ := x
 obtain ⟨p, q, r, s, e1⟩ := Go.Proofs.YtodagkkjfipbgaaGreatDoor.four h.len
 simp only at e1
 subst e1
 have h0 := h.lt 0 p rfl; have h1 := h.lt 1 q rfl; have h2 := h.lt 2 r rfl; have h3 := h.lt 3 s rfl
 exact keyOf_past (b := b) (by omega) (by omega) (by omega) (by omega)
theorem Tryz.infoP : (Tryz.prog.info? 243).map (fun i => (i.zero, i.size, i.bytes)) = some (some (.agg #[.bool false, .int .i64 0, .int .i64 0, .int .i64 0, .int .i64 0]), 5, 40) := by kernel_rfl
theorem Tryz.undPs : Tryz.prog.underlying 235 = some (.slice 243) := by kernel_rfl
theorem Tryz.undPm : Tryz.prog.underlying 236 = some (.map 243 3) := by kernel_rfl
structure FMapP (w : World) (b : Nat) (X : List Spt) (D : DataW Unit) : Prop where
 own : w.ownsMap Tryz.prog 243 (plainElem Tryz.prog 3) b (Maps.size D) D
 few : Maps.size D ≤ X.length
 mem : ∀ x l, Four x → keyOf Tryz.prog 243 (sptV x) = some l → (Maps.has D l = true ↔ x ∈ X) ∧ ∀ i : Nat, X[i]? = some x → D.atKey l (.lit (.int .i64 0)) = .lit (.int .i64 i)
structure FInP (base : Nat) (w : World) (p : Nat) (X : List Spt) (ao : Option Addr) (cap : Nat) (mo : Option Nat) : Prop where
 blk : w.heap[p]? = some (.cells #[.slice ao X.length cap, .map mo] 238 (0, 0))
 row : w.ownsRow base 243 5 (.slice ao X.length cap) X.length (sptCells X)
 map : (mo = none ∧ X = []) ∨ ∃ b D, mo = some b ∧ base ≤ b ∧ FMapP w b X D
 nodup : X.Nodup
 ok : ∀ x ∈ X, Four x
theorem FMapP.kept {w w' : World} {b : Nat} {X : List Spt} {D : DataW Unit} (h : FMapP w b X D) (hb : w'.heap[b]? = w.heap[b]?) : FMapP w' b X D := by
 refine ⟨?_, h.few, h.mem⟩
 obtain ⟨es, clock, h1, r⟩ := h.own
 exact ⟨es, clock, hb.trans h1, r⟩
theorem FMapP.snoc {w w' : World} {b n : Nat} {X : List Spt} {D : DataW Unit} {x : Spt} {lx : Lit} (h : FMapP w b X D) (hx : Four x) (hn : x ∉ X) (hl : keyOf Tryz.prog 243 (sptV x) = some lx)
  (ho : w'.ownsMap Tryz.prog 243 (plainElem Tryz.prog 3) b n (D.put lx (.lit (.int .i64 (X.length : Nat))))) : FMapP w' b (X ++ [x]) (D.put lx (.lit (.int .i64 (X.length : Nat)))) := by
 have hk := pastKey.key hl
 refine ⟨own_tight ho, ?_, fun y l hy hly => ?_⟩
 ·have hne : Maps.has D lx ≠ true := fun e => hn (((h.mem x lx hx hl).1).1 e)
  rw [size_put (h.own.tidy pastKey), if_neg hne, List.length_append]
  have := h.few
  simp; omega
 ·by_cases e : y = x
  ·subst e
   rw [hl] at hly
   cases hly
   refine ⟨⟨fun _ => by simp, fun _ => has_put_same h.own.isMap hk _⟩, fun i hi => ?_⟩
   rw [atKey_put_same h.own.isMap hk]
   rcases snoc_at hi with ⟨h1, _⟩ | ⟨h1, _⟩
   ·exact absurd (List.mem_of_getElem? h1) hn
   ·rw [h1]
  ·have hne : l ≠ lx := fun e' => e (sptV_inj hy hx (pastKey.inj hly (e' ▸ hl)))
   have hm := h.mem y l hy hly
   refine ⟨?_, fun i hi => ?_⟩
   ·rw [has_put_other hne, hm.1]; simp [e]
   ·rw [atKey_put_other hne]
    rcases snoc_at hi with ⟨h1, _⟩ | ⟨_, h1⟩
    ·exact hm.2 i h1
    ·exact absurd h1 e
theorem fmapP_made (w : World) : FMapP (w.alloc (.map #[] 0)) w.heap.size [] (.map []) :=
 ⟨own_tight (World.ownsMap_made w _ _ _), by simp [Maps.size], fun x l _ _ => ⟨by simp [Maps.has], fun i hi => by simp at hi⟩⟩
theorem FInP.lt {base p cap : Nat} {w : World} {X : List Spt} {ao : Option Addr} {mo : Option Nat} (h : FInP base w p X ao cap mo) {b : Nat} (e : mo = some b) : b < w.heap.size ∧ base ≤ b ∧ ∀ cs t m, w.heap[b]? ≠ some (.cells cs t m) := by
 rcases h.map with ⟨h1, _⟩ | ⟨b', D, h1, h2, h3⟩
 ·rw [h1] at e; cases e
 ·rw [h1] at e
  cases e
  refine ⟨h3.own.lt, h2, fun cs t m hh => ?_⟩
  obtain ⟨es, cl, h4, _⟩ := h3.own
  rw [h4] at hh; cases hh
def AtP (p : Nat) (n : Nat) (ao : Option Addr) (cap : Nat) (mo : Option Nat) (k : Nat) : Prop := k = p ∨ (Value.slice ao n cap).ownBlock = some k ∨ mo = some k
theorem FInP.kp {base p cap : Nat} {w w' : World} {X : List Spt} {ao : Option Addr} {mo : Option Nat} {t : TypeId} (h : FInP base w p X ao cap mo) (hc : Chg (AtP p X.length ao cap mo) w w') (h1 : t ≠ 238) (h2 : t ≠ 243) : Kp t w w' := fun k cs m hh => by
 rw [hc.block k (heap_lt hh) ?_]; exact hh
 rintro (e | e | e)
 ·subst e; rw [h.blk] at hh; cases hh; exact h1 rfl
 ·obtain ⟨cs', hk⟩ := row_type h.row k e; rw [hk] at hh; cases hh; exact h2 rfl
 ·exact (h.lt e).2.2 _ _ _ hh
theorem FInP.chg {base p cap : Nat} {w w' : World} {X : List Spt} {ao : Option Addr} {mo : Option Nat} (h : FInP base w p X ao cap mo) (hc : ∀ k, k < w.heap.size → AtP p X.length ao cap mo k → w'.heap[k]? = w.heap[k]?) : FInP base w' p X ao cap mo := by
 refine ⟨(hc p (heap_lt h.blk) (Or.inl rfl)).trans h.blk, ?_, ?_, h.nodup, h.ok⟩
 ·obtain ⟨h1, h2⟩ := h.row
  refine ⟨h1, ?_⟩
  rcases h2 with h2 | ⟨g, c, cur, hv, hg, hh, r⟩
  ·exact Or.inl h2
  ·exact Or.inr ⟨g, c, cur, hv, hg, (hc g (heap_lt hh) (Or.inr (Or.inl (by rw [hv]; rfl)))).trans hh, r⟩
 ·rcases h.map with h1 | ⟨b, D, h1, h2, h3⟩
  ·exact Or.inl h1
  ·exact Or.inr ⟨b, D, h1, h2, h3.kept (hc b h3.own.lt (Or.inr (Or.inr h1)))⟩
theorem FInP.below {base p cap : Nat} {w w' : World} {X : List Spt} {ao : Option Addr} {mo : Option Nat} (h : FInP base w p X ao cap mo) (hb : Below w.heap.size w w') : FInP base w' p X ao cap mo := h.chg fun k hk _ => hb.block k hk
def FindPPost (base p : Nat) (X : List Spt) (ao : Option Addr) (cap : Nat) (mo : Option Nat) (x : Spt) (w : World) (r : Ending) (w' : World) : Prop :=
 ∃ (i : Nat) (X' : List Spt) (ao' : Option Addr) (cap' : Nat) (mo' : Option Nat), r = .returned (.int .i64 i) ∧ FInP base w' p X' ao' cap' mo' ∧ FoundX X x X' i ∧ (mo' = mo ∨ ∃ b, mo' = some b ∧ w.heap.size ≤ b) ∧ (∀ k, (Value.slice ao' X'.length cap').ownBlock = some k → (Value.slice ao X.length cap).ownBlock = some k ∨ w.heap.size ≤ k) ∧ Chg (AtP p X.length ao cap mo) w w'
theorem keyOf_knownS {x : Spt} (h : Four x) : ∃ l, keyOf Tryz.prog 249 (sptV x) = some l := by
 obtain ⟨b, l⟩ := x
 obtain ⟨p, q, r, s, e1⟩ := Go.Proofs.YtodagkkjfipbgaaGreatDoor.four h.len
 simp only at e1
 subst e1
 have h0 := h.lt 0 p rfl; have h1 := h.lt 1 q rfl; have h2 := h.lt 2 r rfl; have h3 := h.lt 3 s rfl
 exact keyOf_known (b := b) (by omega) (by omega) (by omega) (by omega)
theorem Tryz.infoK : (Tryz.prog.info? 249).map (fun i => (i.zero, i.size, i.bytes)) = some (some (.agg #[.bool false, .int .i64 0, .int .i64 0, .int .i64 0, .int .i64 0]), 5, 40) := by kernel_rfl
theorem Tryz.undKs : Tryz.prog.underlying 161 = some (.slice 249) := by kernel_rfl
theorem Tryz.undKm : Tryz.prog.underlying 162 = some (.map 249 3) := by kernel_rfl
structure FMapK (w : World) (b : Nat) (X : List Spt) (D : DataW Unit) : Prop where
 own : w.ownsMap Tryz.prog 249 (plainElem Tryz.prog 3) b (Maps.size D) D
 few : Maps.size D ≤ X.length
 mem : ∀ x l, Four x → keyOf Tryz.prog 249 (sptV x) = some l → (Maps.has D l = true ↔ x ∈ X) ∧ ∀ i : Nat, X[i]? = some x → D.atKey l (.lit (.int .i64 0)) = .lit (.int .i64 i)
structure FInK (base : Nat) (w : World) (p : Nat) (X : List Spt) (ao : Option Addr) (cap : Nat) (mo : Option Nat) : Prop where
 blk : w.heap[p]? = some (.cells #[.slice ao X.length cap, .map mo] 164 (0, 0))
 row : w.ownsRow base 249 5 (.slice ao X.length cap) X.length (sptCells X)
 map : (mo = none ∧ X = []) ∨ ∃ b D, mo = some b ∧ base ≤ b ∧ FMapK w b X D
 nodup : X.Nodup
 ok : ∀ x ∈ X, Four x
theorem FMapK.kept {w w' : World} {b : Nat} {X : List Spt} {D : DataW Unit} (h : FMapK w b X D) (hb : w'.heap[b]? = w.heap[b]?) : FMapK w' b X D := by
 refine ⟨?_, h.few, h.mem⟩
 obtain ⟨es, clock, h1, r⟩ := h.own
 exact ⟨es, clock, hb.trans h1, r⟩
theorem FMapK.snoc {w w' : World} {b n : Nat} {X : List Spt} {D : DataW Unit} {x : Spt} {lx : Lit} (h : FMapK w b X D) (hx : Four x) (hn : x ∉ X) (hl : keyOf Tryz.prog 249 (sptV x) = some lx)
  (ho : w'.ownsMap Tryz.prog 249 (plainElem Tryz.prog 3) b n (D.put lx (.lit (.int .i64 (X.length : Nat))))) : FMapK w' b (X ++ [x]) (D.put lx (.lit (.int .i64 (X.length : Nat)))) := by
 have hk := knownKey.key hl
 refine ⟨own_tight ho, ?_, fun y l hy hly => ?_⟩
 ·have hne : Maps.has D lx ≠ true := fun e => hn (((h.mem x lx hx hl).1).1 e)
  rw [size_put (h.own.tidy knownKey), if_neg hne, List.length_append]
  have := h.few
  simp; omega
 ·by_cases e : y = x
  ·subst e
   rw [hl] at hly
   cases hly
   refine ⟨⟨fun _ => by simp, fun _ => has_put_same h.own.isMap hk _⟩, fun i hi => ?_⟩
   rw [atKey_put_same h.own.isMap hk]
   rcases snoc_at hi with ⟨h1, _⟩ | ⟨h1, _⟩
   ·exact absurd (List.mem_of_getElem? h1) hn
   ·rw [h1]
  ·have hne : l ≠ lx := fun e' => e (sptV_inj hy hx (knownKey.inj hly (e' ▸ hl)))
   have hm := h.mem y l hy hly
   refine ⟨?_, fun i hi => ?_⟩
   ·rw [has_put_other hne, hm.1]; simp [e]
   ·rw [atKey_put_other hne]
    rcases snoc_at hi with ⟨h1, _⟩ | ⟨_, h1⟩
    ·exact hm.2 i h1
    ·exact absurd h1 e
theorem fmapK_made (w : World) : FMapK (w.alloc (.map #[] 0)) w.heap.size [] (.map []) :=
 ⟨own_tight (World.ownsMap_made w _ _ _), by simp [Maps.size], fun x l _ _ => ⟨by simp [Maps.has], fun i hi => by simp at hi⟩⟩
theorem FInK.lt {base p cap : Nat} {w : World} {X : List Spt} {ao : Option Addr} {mo : Option Nat} (h : FInK base w p X ao cap mo) {b : Nat} (e : mo = some b) : b < w.heap.size ∧ base ≤ b ∧ ∀ cs t m, w.heap[b]? ≠ some (.cells cs t m) := by
 rcases h.map with ⟨h1, _⟩ | ⟨b', D, h1, h2, h3⟩
 ·rw [h1] at e; cases e
 ·rw [h1] at e
  cases e
  refine ⟨h3.own.lt, h2, fun cs t m hh => ?_⟩
  obtain ⟨es, cl, h4, _⟩ := h3.own
  rw [h4] at hh; cases hh
def AtK (p : Nat) (n : Nat) (ao : Option Addr) (cap : Nat) (mo : Option Nat) (k : Nat) : Prop := k = p ∨ (Value.slice ao n cap).ownBlock = some k ∨ mo = some k
theorem FInK.kp {base p cap : Nat} {w w' : World} {X : List Spt} {ao : Option Addr} {mo : Option Nat} {t : TypeId} (h : FInK base w p X ao cap mo) (hc : Chg (AtK p X.length ao cap mo) w w') (h1 : t ≠ 164) (h2 : t ≠ 249) : Kp t w w' := fun k cs m hh => by
 rw [hc.block k (heap_lt hh) ?_]; exact hh
 rintro (e | e | e)
 ·subst e; rw [h.blk] at hh; cases hh; exact h1 rfl
 ·obtain ⟨cs', hk⟩ := row_type h.row k e; rw [hk] at hh; cases hh; exact h2 rfl
 ·exact (h.lt e).2.2 _ _ _ hh
theorem FInK.chg {base p cap : Nat} {w w' : World} {X : List Spt} {ao : Option Addr} {mo : Option Nat} (h : FInK base w p X ao cap mo) (hc : ∀ k, k < w.heap.size → AtK p X.length ao cap mo k → w'.heap[k]? = w.heap[k]?) : FInK base w' p X ao cap mo := by
 refine ⟨(hc p (heap_lt h.blk) (Or.inl rfl)).trans h.blk, ?_, ?_, h.nodup, h.ok⟩
 ·obtain ⟨h1, h2⟩ := h.row
  refine ⟨h1, ?_⟩
  rcases h2 with h2 | ⟨g, c, cur, hv, hg, hh, r⟩
  ·exact Or.inl h2
  ·exact Or.inr ⟨g, c, cur, hv, hg, (hc g (heap_lt hh) (Or.inr (Or.inl (by rw [hv]; rfl)))).trans hh, r⟩
 ·rcases h.map with h1 | ⟨b, D, h1, h2, h3⟩
  ·exact Or.inl h1
  ·exact Or.inr ⟨b, D, h1, h2, h3.kept (hc b h3.own.lt (Or.inr (Or.inr h1)))⟩
theorem FInK.below {base p cap : Nat} {w w' : World} {X : List Spt} {ao : Option Addr} {mo : Option Nat} (h : FInK base w p X ao cap mo) (hb : Below w.heap.size w w') : FInK base w' p X ao cap mo := h.chg fun k hk _ => hb.block k hk
def FindKPost (base p : Nat) (X : List Spt) (ao : Option Addr) (cap : Nat) (mo : Option Nat) (x : Spt) (w : World) (r : Ending) (w' : World) : Prop :=
 ∃ (i : Nat) (X' : List Spt) (ao' : Option Addr) (cap' : Nat) (mo' : Option Nat), r = .returned (.int .i64 i) ∧ FInK base w' p X' ao' cap' mo' ∧ FoundX X x X' i ∧ (mo' = mo ∨ ∃ b, mo' = some b ∧ w.heap.size ≤ b) ∧ (∀ k, (Value.slice ao' X'.length cap').ownBlock = some k → (Value.slice ao X.length cap).ownBlock = some k ∨ w.heap.size ≤ k) ∧ Chg (AtK p X.length ao cap mo) w w'
end Go.Proofs.YtodagkkjfipbgaaGreatDoor
