import Derived.Shelf.Abstract
import Derived.Test.YtodagkkjfipbgaaGreatDoorJ8toQ4
namespace Go.Proofs.YtodagkkjfipbgaaGreatDoor
open Go.RowKit
set_option maxRecDepth 100000 in
set_option maxHeartbeats 2000000 in
theorem loop_any (d : Nat) (y : Px) (base : Nat) (w : World) (f q : Nat) (hen : Enters f) (hmk : Makes d y base w f q) (W : World) (m : Nat) (S : List St) (first : Int) (b : Nat) (hW : Below base w W) (hM : MIn W base m S first) (h1 : S.length + (2 + wtx d y) ≤ 9000) (h2 : tot S + (2 + wtx d y) ≤ 9000) :
  Calls Tryz.prog 251 #[.pointer (some ⟨m, 0, none⟩), fnv f q, .int .i64 b] W fun e w' => e = .returned (.tuple #[.int .i64 S.length, .int .i64 (mk d y (S ++ [(0, [b])]) S.length).2]) ∧
   MIn w' base m (leadS (mk d y (S ++ [(0, [b])]) S.length).1 S.length (mk d y (S ++ [(0, [b])]) S.length).2) first ∧ Below base W w' := by
 have HM : Hid (MIn W base m S first) := hM
 have hSl : S.length ≤ 9000 := by omega
 have hz : (S ++ [((0 : Nat), [b])]).length = S.length + 1 ∧ tot (S ++ [(0, [b])]) = tot S + 1 := by constructor <;> simp [tot]
 obtain ⟨Z, hZ⟩ : ∃ Z, Z = S ++ [((0 : Nat), [b])] := ⟨_, rfl⟩
 rw [← hZ] at hz ⊢
 have HE : Hid (Z = S ++ [((0 : Nat), [b])]) := hZ
 have hadd := mk_adds d y Z S.length
 have hcall := fun W1 (hb : Below base W W1) (hm : MIn W1 base m Z first) => hmk W1 m Z first S.length (hW.trans hb) hm (by omega) (by omega)
 obtain ⟨R, hR⟩ : ∃ R, R = mk d y Z S.length := ⟨_, rfl⟩
 rw [← hR] at hadd ⊢
 have HB : Hid (S.length < R.1.length ∧ R.1.length ≤ 9000 ∧ tot R.1 ≤ 9000) := by
  obtain ⟨a1, a2, a3⟩ := hadd
  exact ⟨by omega, by omega, by omega⟩
 have HK : Hid (∀ W1, Below base W W1 → MIn W1 base m Z first → Calls Tryz.prog f #[.pointer (some ⟨m, 0, none⟩), .int .i64 S.length, .pointer (some ⟨q, 0, none⟩)] W1 fun e w' => e = .returned (.int .i64 R.2) ∧ MIn w' base m R.1 first ∧ Below base W1 w') := by
  intro W1 hb hm
  have := hcall W1 hb hm
  rw [← hR] at this
  exact this
 clear hM h1 h2 hz hZ hcall hadd hR hmk
 unfold Enters at hen
 unfold fnv
 go_enter Tryz.func251, Tryz.ntmps251
 go_wp2_with fail
 refine (add_new base m S first 0 b W HM.out hSl).mono ?_
 rintro e1 w1 ⟨rfl, h3, h4⟩
 rw [← HE.out] at h3
 have H3 : Hid (MIn w1 base m Z first) := h3
 clear h3
 go_wp2_with fail
 refine (HK.out w1 h4 H3.out).mono ?_
 rintro e2 w2 ⟨rfl, h5, h6⟩
 have H5 : Hid (MIn w2 base m R.1 first) := h5
 clear h5
 go_wp2_with fail
 refine (lead_new base m R.1 first S.length R.2 w2 H5.out HB.out.1 HB.out.2.1 HB.out.2.2).mono ?_
 rintro e3 w3 ⟨rfl, h7, h8⟩
 have H7 : Hid (MIn w3 base m (leadS R.1 S.length R.2) first) := h7
 clear h7
 go_wp2_with fail
 go_ret2
 exact ⟨rfl, H7.out, (h4.trans h6).trans h8⟩
set_option maxHeartbeats 1000000 in
theorem star_call (d : Nat) (hd : PartOk d) (x y : Px) (base : Nat) (w : World) (q : Nat) (u : Value) (hx : x.what = 3) (hl : x.l = [y]) (hq : q < base) (hbw : base ≤ w.heap.size) (h : w.heap[q]? = some (.cells #[u] 224 (0, 0)))
  (hp : PIn d (fun k => k < base) w u y) : Makes (d + 1) x base w 250 q := by
 intro W m S first b hW hM h1 h2
 obtain ⟨f, q', rfl, hen, hmk⟩ := hd _ _ _ _ hp hbw
 have e : mk (d + 1) x S b = (leadS (mk d y (S ++ [(0, [b])]) S.length).1 S.length (mk d y (S ++ [(0, [b])]) S.length).2, S.length) := by
  rw [mk, if_neg (by omega), if_neg (by omega), if_neg (by omega), hl]; simp [hx]
 have e2 : wtx (d + 1) x = 2 + wtx d y := by rw [wtx, if_neg (by omega), if_neg (by omega), if_neg (by omega), hl]; simp
 rw [e2] at h1 h2
 rw [e]
 have hcall := loop_any d y base w f q' hen hmk W m S first b hW hM h1 h2
 obtain ⟨R, hR⟩ : ∃ R, R = mk d y (S ++ [(0, [b])]) S.length := ⟨_, rfl⟩
 rw [← hR] at hcall ⊢
 have HK : Hid (Calls Tryz.prog 251 #[.pointer (some ⟨m, 0, none⟩), fnv f q', .int .i64 b] W fun e w' => e = .returned (.tuple #[.int .i64 S.length, .int .i64 R.2]) ∧ MIn w' base m (leadS R.1 S.length R.2) first ∧ Below base W w') := hcall
 have c0 := cell_of_block (box_on hq hW h) 0 _ rfl
 clear hcall hmk hM h1 h2 e e2 hp h hR hx hl
 obtain ⟨v, hv⟩ : ∃ v, v = fnv f q' := ⟨_, rfl⟩
 rw [← hv] at HK c0
 clear hv
 go_enter Tryz.func250, Tryz.ntmps250
 go_wp2_with fail
 refine HK.out.mono ?_
 rintro e1 w1 ⟨rfl, h3, h4⟩
 have H3 : Hid (MIn w1 base m (leadS R.1 S.length R.2) first) := h3
 clear h3
 go_wp2_with fail
 go_ret
 exact ⟨rfl, H3.out, h4⟩
set_option maxHeartbeats 1000000 in
theorem plus_call (d : Nat) (hd : PartOk d) (x y : Px) (base : Nat) (w : World) (q : Nat) (u : Value) (hx : x.what = 4) (hl : x.l = [y]) (hq : q < base) (hbw : base ≤ w.heap.size) (h : w.heap[q]? = some (.cells #[u] 224 (0, 0)))
  (hp : PIn d (fun k => k < base) w u y) : Makes (d + 1) x base w 252 q := by
 intro W m S first b hW hM h1 h2
 obtain ⟨f, q', rfl, hen, hmk⟩ := hd _ _ _ _ hp hbw
 have e : mk (d + 1) x S b = (leadS (mk d y (S ++ [(0, [b])]) S.length).1 S.length (mk d y (S ++ [(0, [b])]) S.length).2, (mk d y (S ++ [(0, [b])]) S.length).2) := by
  rw [mk, if_neg (by omega), if_neg (by omega), if_neg (by omega), hl]; simp [hx]
 have e2 : wtx (d + 1) x = 2 + wtx d y := by rw [wtx, if_neg (by omega), if_neg (by omega), if_neg (by omega), hl]; simp
 rw [e2] at h1 h2
 rw [e]
 have hcall := loop_any d y base w f q' hen hmk W m S first b hW hM h1 h2
 obtain ⟨R, hR⟩ : ∃ R, R = mk d y (S ++ [(0, [b])]) S.length := ⟨_, rfl⟩
 rw [← hR] at hcall ⊢
 have HK : Hid (Calls Tryz.prog 251 #[.pointer (some ⟨m, 0, none⟩), fnv f q', .int .i64 b] W fun e w' => e = .returned (.tuple #[.int .i64 S.length, .int .i64 R.2]) ∧ MIn w' base m (leadS R.1 S.length R.2) first ∧ Below base W w') := hcall
 have c0 := cell_of_block (box_on hq hW h) 0 _ rfl
 clear hcall hmk hM h1 h2 e e2 hp h hR hx hl
 obtain ⟨v, hv⟩ : ∃ v, v = fnv f q' := ⟨_, rfl⟩
 rw [← hv] at HK c0
 clear hv
 go_enter Tryz.func252, Tryz.ntmps252
 go_wp2_with fail
 refine HK.out.mono ?_
 rintro e1 w1 ⟨rfl, h3, h4⟩
 have H3 : Hid (MIn w1 base m (leadS R.1 S.length R.2) first) := h3
 clear h3
 go_wp2_with fail
 go_ret
 exact ⟨rfl, H3.out, h4⟩
theorem part_ok : ∀ d, PartOk d := by
 intro d
 induction d with
 | zero => intro x v base w h; exact h.elim
 | succ d ih =>
  intro x v base w h hb
  obtain ⟨q, hq, h⟩ := h
  rcases h with ⟨h1, h2, h3, _⟩ | ⟨h1, h2, vR, h3, h4⟩ | ⟨h1, h2, vR, h3, h4⟩ | ⟨h1, h2, u, y, h3, h4, h5⟩ | ⟨h1, h2, u, y, h3, h4, h5⟩
  ·exact ⟨_, q, h2, enters_of Tryz.func255 (by kernel_rfl) rfl, one_call d x base w q h1 hq h3⟩
  ·exact ⟨_, q, h2, enters_of Tryz.func206 (by kernel_rfl) rfl, row_call d ih x base w q vR h1 hq hb h3 h4⟩
  ·exact ⟨_, q, h2, enters_of Tryz.func225 (by kernel_rfl) rfl, either_call d ih x base w q vR h1 hq hb h3 h4⟩
  ·exact ⟨_, q, h2, enters_of Tryz.func250 (by kernel_rfl) rfl, star_call d ih x y base w q u h1 h3 hq hb h4 h5⟩
  ·exact ⟨_, q, h2, enters_of Tryz.func252 (by kernel_rfl) rfl, plus_call d ih x y base w q u h1 h3 hq hb h4 h5⟩
def startS : List St := [(0, [])]
theorem setCell1 {w : World} {m : Nat} {a b v : Value} {t : TypeId} (h : w.heap[m]? = some (.cells #[a, b] t (0, 0))) : (w.setCell ⟨m, 1, none⟩ v).heap[m]? = some (.cells #[a, v] t (0, 0)) := (block_setCell h 1 _).trans rfl
theorem row_base {w : World} {base base' : Nat} {e : TypeId} {size : Nat} {v : Value} {n : Nat} {us : List Value} (h : w.ownsRow base e size v n us) (hb : base' ≤ base) : w.ownsRow base' e size v n us := by
 refine ⟨h.1, ?_⟩
 rcases h.2 with h2 | ⟨g, cap, cur, hv, hg, r⟩
 ·exact Or.inl h2
 ·exact Or.inr ⟨g, cap, cur, hv, Nat.le_trans hb hg, r⟩
set_option maxRecDepth 100000 in
set_option maxHeartbeats 2000000 in
theorem make_any (d : Nat) (x : Px) (v : Value) (w : World) (h : PIn d (fun k => k < w.heap.size) w v x) (hw : wtx d x ≤ 8000) :
  Calls Tryz.prog 133 #[v] w fun e w' => ∃ vS tv, e = .returned (.agg #[vS, .int .i64 (mk d x startS 0).2]) ∧ MRow w' w.heap.size vS (mk d x startS 0).1 tv ∧ Below w.heap.size w w' := by
 have hp := h.turn (A' := fun k => k < w.heap.size + 1) (KeepPt.refl _ _) (fun k _ h => by omega)
 have hp1 : PIn d (fun k => k < w.heap.size + 1) (w.alloc (.cells #[.slice none 0 0, .int .i64 0] 146)) v x := hp.turn (KeepPt.below (below_alloc w _) fun k hk _ => hk) fun _ _ h => h
 obtain ⟨f, q, rfl, hen, hmk⟩ := part_ok d x v (w.heap.size + 1) _ hp1 (by simp)
 obtain ⟨W, hW⟩ : ∃ W, W = ((w.alloc (.cells #[.slice none 0 0, .int .i64 0] 146)).alloc (.cells #[.int .u8 0, .slice none 0 0] 293)).alloc (.cells #[.slice (some ⟨w.heap.size + 1, 0, none⟩) 1 1, .int .i64 0] 146) := ⟨_, rfl⟩
 have HB : Hid (Below (w.heap.size + 1) (w.alloc (.cells #[.slice none 0 0, .int .i64 0] 146)) W) := by
  show Below _ _ _
  rw [hW]
  exact ((Below.refl _ _).alloc (by simp) _).alloc (by simp) _
 have hm0 : W.heap[w.heap.size + 2]? = some (.cells #[.slice (some ⟨w.heap.size + 1, 0, none⟩) 1 1, .int .i64 0] 146 (0, 0)) := by rw [hW]; exact (show (((w.alloc _).alloc _).heap.size) = w.heap.size + 2 by simp) ▸ heap_alloc_new ((w.alloc _).alloc _) _
 have hr0 : W.heap[w.heap.size + 1]? = some (.cells #[.int .u8 0, .slice none 0 0] 293 (0, 0)) := by
  rw [hW, Below.heap_alloc _ _ _ (by simp)]
  exact (show ((w.alloc _).heap.size) = w.heap.size + 1 by simp) ▸ heap_alloc_new (w.alloc _) _
 have hM : MIn W (w.heap.size + 1) (w.heap.size + 2) startS 0 := by
  refine ⟨by omega, _, [.slice none 0 0], hm0, rfl, ?_, ?_, ?_⟩
  ·exact ⟨rfl, Or.inr ⟨w.heap.size + 1, 1, _, rfl, Nat.le_refl _, hr0, Nat.le_refl _, by decide, rfl, rfl⟩⟩
  ·intro i v s hv hs
   cases i with
   | zero => simp [startS] at hv hs; subst hv; subst hs; exact World.ownsRow_nil _ _ _ _
   | succ i => simp at hv
  ·intro i j v u k hij hv hu
   have h1 := (List.getElem?_eq_some_iff.1 hv).1
   have h2 := (List.getElem?_eq_some_iff.1 hu).1
   simp at h1 h2; omega
 have hcall := hmk W (w.heap.size + 2) startS 0 0 HB.out hM (by simp [startS]; omega) (by simp [startS, tot]; omega)
 obtain ⟨R, hR⟩ : ∃ R, R = mk d x startS 0 := ⟨_, rfl⟩
 rw [← hR] at hcall ⊢
 have HK : Hid (Calls Tryz.prog f #[.pointer (some ⟨w.heap.size + 2, 0, none⟩), .int .i64 0, .pointer (some ⟨q, 0, none⟩)] W fun e w' => e = .returned (.int .i64 R.2) ∧ MIn w' (w.heap.size + 1) (w.heap.size + 2) R.1 0 ∧ Below (w.heap.size + 1) W w') := hcall
 have HW : Hid (W = ((w.alloc (.cells #[.slice none 0 0, .int .i64 0] 146)).alloc (.cells #[.int .u8 0, .slice none 0 0] 293)).alloc (.cells #[.slice (some ⟨w.heap.size + 1, 0, none⟩) 1 1, .int .i64 0] 146)) := hW
 have hq0 : Hid (W.heap[w.heap.size]? = some (.cells #[.slice none 0 0, .int .i64 0] 146 (0, 0))) := by
  show _ = _
  rw [hW, Below.heap_alloc _ _ _ (by simp; omega), Below.heap_alloc _ _ _ (by simp)]
  exact heap_alloc_new w _
 clear hcall hmk h hp hp1 hM hm0 hr0 hR hW
 unfold Enters at hen
 unfold fnv
 go_enter Tryz.func133, Tryz.ntmps133
 go_wp2_with fail
 rw [← HW.out]
 refine HK.out.mono ?_
 rintro e1 w1 ⟨rfl, h3, h4⟩
 obtain ⟨_, vS, tv, hm, hr⟩ := h3
 obtain ⟨ao, cap, rfl⟩ := row_shape hr.row
 have hq1 : w1.heap[w.heap.size]? = some (.cells #[.slice none 0 0, .int .i64 0] 146 (0, 0)) := by rw [h4.block _ (by omega)]; exact hq0.out
 have c0 := cell_of_block hm 0 _ rfl
 have c1 := cell_of_block hm 1 _ rfl
 have cf := free_of_block hm
 have d0 := cell_of_block hq1 0 _ rfl
 have d1 := cell_of_block hq1 1 _ rfl
 have df := free_of_block hq1
 have HM : Hid (w1.heap[w.heap.size + 2]? = some (.cells #[.slice ao R.1.length cap, .int .i64 0] 146 (0, 0))) := hm
 have HQ : Hid (w1.heap[w.heap.size]? = some (.cells #[.slice none 0 0, .int .i64 0] 146 (0, 0))) := hq1
 have HR : Hid (MRow w1 (w.heap.size + 1) (.slice ao R.1.length cap) R.1 tv) := hr
 clear hm hq1 hr
 go_wp2_with fail
 obtain ⟨W2, hW2⟩ : ∃ W2, W2 = w1.setCell ⟨w.heap.size + 1 + 1, 1, none⟩ (.int .i64 R.2) := ⟨_, rfl⟩
 rw [← hW2]
 have q2 : W2.heap[w.heap.size]? = some (.cells #[.slice none 0 0, .int .i64 0] 146 (0, 0)) := by
  rw [hW2, Below.heap_setCell _ _ _ _ (by simp; omega)]; exact HQ.out
 have q3 := setCell0 (v := .slice ao R.1.length cap) q2
 have q4 := setCell1 (v := .int .i64 R.2) q3
 refine bodyPost_ret (results_cell_row rfl _ _ w.heap.size 146 _ (0, 0) _ rfl q4 Tryz.underlying146 rfl (by kernel_rfl)) rfl ?_
 have kS : Kp 293 w1 ((W2.setCell ⟨w.heap.size, 0, none⟩ (.slice ao R.1.length cap)).setCell ⟨w.heap.size, 1, none⟩ (.int .i64 R.2)) := by
  have k1 : Kp 293 w1 W2 := by rw [hW2]; exact (Kp.refl _ _).setCell HM.out (by decide) _
  exact (k1.setCell q2 (by decide) _).setCell q3 (by decide) _
 have kI : Kp 3 w1 ((W2.setCell ⟨w.heap.size, 0, none⟩ (.slice ao R.1.length cap)).setCell ⟨w.heap.size, 1, none⟩ (.int .i64 R.2)) := by
  have k1 : Kp 3 w1 W2 := by rw [hW2]; exact (Kp.refl _ _).setCell HM.out (by decide) _
  exact (k1.setCell q2 (by decide) _).setCell q3 (by decide) _
 have hr := HR.out
 refine ⟨_, tv, rfl, ⟨hr.len, ?_, fun i v s hv hs => ?_, hr.apart⟩, ?_⟩
 ·exact row_base (row_kp hr.row kS) (by omega)
 ·exact row_base (row_kp (hr.to_ i v s hv hs) kI) (by omega)
 ·have b0 : Below w.heap.size w (w.alloc (.cells #[.slice none 0 0, .int .i64 0] 146)) := below_alloc _ _
  have b1 : Below w.heap.size w W2 := by
   rw [hW2]
   exact ((b0.trans (HB.out.mono (by omega))).trans (h4.mono (by omega))).setCell (by simp; omega) _
  exact (b1.setCell (Nat.le_refl _) _).setCell (Nat.le_refl _) _
theorem heap_of_cell {w : World} {b o : Nat} {v : Value} (h : w.cell? ⟨b, o, none⟩ = some v) : b < w.heap.size := World.block_lt_of_cell? w _ h
def From (N : Nat) : Nat → Prop := fun k => N ≤ k
theorem PIn.up {N d : Nat} {w w' : World} {v : Value} {x : Px} (h : PIn d (From N) w v x) (hb : Below w.heap.size w w') : PIn d (From N) w' v x := h.turn (KeepPt.below hb fun _ hk _ => hk) fun _ _ h => h
theorem PtRow.up {N d : Nat} {w w' : World} {v : Value} {l : List Px} (h : PtRow (PIn d (From N) w) (From N) w v l) (hb : Below w.heap.size w w') : PtRow (PIn d (From N) w') (From N) w' v l := h.turn (KeepPt.below hb fun _ hk _ => hk) (fun _ _ h => h) fun _ _ h => h.up hb
theorem PIn.from {N M d : Nat} {w : World} {v : Value} {x : Px} (h : PIn d (From N) w v x) (hm : M ≤ N) : PIn d (From M) w v x := h.turn (KeepPt.refl _ _) fun _ _ h => Nat.le_trans hm h
theorem PIn.fn {d : Nat} {A : Nat → Prop} {w : World} {v : Value} {x : Px} (h : PIn d A w v x) : ∃ f q, v = fnv f q := by
 cases d with
 | zero => exact h.elim
 | succ d =>
  obtain ⟨q, _, h⟩ := h
  rcases h with ⟨_, h, _⟩ | ⟨_, h, _⟩ | ⟨_, h, _⟩ | ⟨_, h, _⟩ | ⟨_, h, _⟩
  all_goals exact ⟨_, q, h⟩
set_option maxHeartbeats 1000000 in
theorem one_any (k : Nat) (hk : k < 256) (w : World) :
  Calls Tryz.prog 254 #[.int .u8 k] w fun e w' => ∃ v, e = .returned v ∧ PIn 1 (From w.heap.size) w' v (oneP k) ∧ Below w.heap.size w w' := by
 go_enter Tryz.func254, Tryz.ntmps254
 go_wp2
 go_ret
 exact ⟨_, rfl, ⟨w.heap.size, Nat.le_refl _, Or.inl ⟨rfl, rfl, heap_alloc_new _ _, hk⟩⟩, below_alloc _ _⟩
set_option maxHeartbeats 1000000 in
theorem rowp_any (N d : Nat) (l : List Px) (v : Value) (w : World) (h : PtRow (PIn d (From N) w) (From N) w v l) (hN : N ≤ w.heap.size) :
  Calls Tryz.prog 174 #[v] w fun e w' => ∃ u, e = .returned u ∧ PIn (d + 1) (From N) w' u (rowP l) ∧ Below w.heap.size w w' := by
 obtain ⟨ao, cap, rfl, _⟩ := h.form
 have HH : Hid (PtRow (PIn d (From N) w) (From N) w (.slice ao l.length cap) l) := h
 clear h
 go_enter Tryz.func174, Tryz.ntmps174
 go_wp2
 go_ret
 exact ⟨_, rfl, ⟨w.heap.size, hN, Or.inr (Or.inl ⟨rfl, rfl, _, heap_alloc_new _ _, HH.out.up (below_alloc _ _)⟩)⟩, below_alloc _ _⟩
theorem eitherP_one (x : Px) : eitherP [x] = x := rfl
theorem eitherP_ne (l : List Px) (h : l.length ≠ 1) : eitherP l = ⟨2, 0, l⟩ := by
 unfold eitherP
 split
 ·simp at h
 ·rfl
set_option maxHeartbeats 1000000 in
theorem eitherp_any (N d : Nat) (l : List Px) (v : Value) (w : World) (h : PtRow (PIn d (From N) w) (From N) w v l) (hN : N ≤ w.heap.size) :
  Calls Tryz.prog 208 #[v] w fun e w' => ∃ u, e = .returned u ∧ PIn (d + 1) (From N) w' u (eitherP l) ∧ Below w.heap.size w w' := by
 have hlen := h.len
 obtain ⟨ao, cap, rfl, hcs⟩ := h.form
 have HH : Hid (PtRow (PIn d (From N) w) (From N) w (.slice ao l.length cap) l) := h
 clear h
 by_cases h1 : l.length = 1
 ·obtain ⟨x, rfl⟩ : ∃ x, l = [x] := List.length_eq_one_iff.1 h1
  obtain ⟨g, u, rfl, hg, hu, hp⟩ := hcs 0 (by simp)
  rw [eitherP_one]
  have HP : Hid (PIn d (From N) w u x) := hp
  have hu' : ∀ o, (w.alloc o).cell? ⟨g, 0, none⟩ = some u := fun o => ((below_alloc w o).cell (p := ⟨g, 0, none⟩) (heap_of_cell hu)).trans hu
  clear hcs hp h1
  go_enter Tryz.func208, Tryz.ntmps208
  go_wp2
  go_ret
  exact ⟨u, rfl, (HP.out.up (below_alloc _ _)).deeper (by omega), below_alloc _ _⟩
 ·have h2 : ((l.length : Int) == 1) = false := by rw [beq_eq_false_iff_ne]; omega
  rw [eitherP_ne l h1]
  clear h1 hcs
  go_enter Tryz.func208, Tryz.ntmps208
  go_wp2
  go_ret
  exact ⟨_, rfl, ⟨w.heap.size, hN, Or.inr (Or.inr (Or.inl ⟨rfl, rfl, _, heap_alloc_new _ _, HH.out.up (below_alloc _ _)⟩))⟩, below_alloc _ _⟩
set_option maxHeartbeats 1000000 in
theorem star_any (N d : Nat) (x : Px) (u : Value) (w : World) (h : PIn d (From N) w u x) (hN : N ≤ w.heap.size) :
  Calls Tryz.prog 242 #[u] w fun e w' => ∃ v, e = .returned v ∧ PIn (d + 1) (From N) w' v (starP x) ∧ Below w.heap.size w w' := by
 obtain ⟨f, q, rfl⟩ := h.fn
 have HH : Hid (PIn d (From N) w (fnv f q) x) := h
 clear h
 unfold fnv
 go_enter Tryz.func242, Tryz.ntmps242
 go_wp2
 go_ret
 exact ⟨_, rfl, ⟨w.heap.size, hN, Or.inr (Or.inr (Or.inr (Or.inl ⟨rfl, rfl, _, x, rfl, heap_alloc_new _ _, HH.out.up (below_alloc _ _)⟩)))⟩, below_alloc _ _⟩
set_option maxHeartbeats 1000000 in
theorem plus_any (N d : Nat) (x : Px) (u : Value) (w : World) (h : PIn d (From N) w u x) (hN : N ≤ w.heap.size) :
  Calls Tryz.prog 243 #[u] w fun e w' => ∃ v, e = .returned v ∧ PIn (d + 1) (From N) w' v (plusP x) ∧ Below w.heap.size w w' := by
 obtain ⟨f, q, rfl⟩ := h.fn
 have HH : Hid (PIn d (From N) w (fnv f q) x) := h
 clear h
 unfold fnv
 go_enter Tryz.func243, Tryz.ntmps243
 go_wp2
 go_ret
 exact ⟨_, rfl, ⟨w.heap.size, hN, Or.inr (Or.inr (Or.inr (Or.inr ⟨rfl, rfl, _, x, rfl, heap_alloc_new _ _, HH.out.up (below_alloc _ _)⟩)))⟩, below_alloc _ _⟩
theorem PtRow_nil (R : Value → Px → Prop) (A : Nat → Prop) (w : World) : PtRow R A w (.slice none 0 0) [] := ⟨[], rfl, by simp, World.ownsRow_nil _ _ _ _, fun k e => by simp [Value.ownBlock] at e, fun i u x hu => by simp at hu⟩
set_option maxHeartbeats 1000000 in
theorem maybe_any (N d : Nat) (x : Px) (u : Value) (w : World) (h : PIn (d + 1) (From N) w u x) (hN : N ≤ w.heap.size) :
  Calls Tryz.prog 244 #[u] w fun e w' => ∃ v, e = .returned v ∧ PIn (d + 2) (From N) w' v (maybeP x) ∧ Below w.heap.size w w' := by
 obtain ⟨f, q, rfl⟩ := h.fn
 have HH : Hid (PIn (d + 1) (From N) w (fnv f q) x) := h
 clear h
 unfold fnv
 go_enter Tryz.func244, Tryz.ntmps244
 go_wp2_with fail
 refine (rowp_any N d [] (.slice none 0 0) w (PtRow_nil _ _ _) hN).mono ?_
 rintro e1 w1 ⟨r, rfl, hr, hb⟩
 obtain ⟨f', q', rfl⟩ := hr.fn
 have HR : Hid (PIn (d + 1) (From N) w1 (fnv f' q') (rowP [])) := hr
 clear hr
 unfold fnv
 have hs := hb.size
 go_wp2_with fail
 refine (eitherp_any N (d + 1) [x, rowP []] _ _ ?_ (Nat.le_trans hN (Nat.le_trans hs (below_alloc w1 _).size))).mono ?_
 ·refine ⟨[fnv f q, fnv f' q'], rfl, by simp, ⟨rfl, Or.inr ⟨w1.heap.size, 2, #[fnv f q, fnv f' q'], rfl, Nat.zero_le _, heap_alloc_new _ _, Nat.le_refl _, by decide, rfl, rfl⟩⟩, fun k e => ?_, ?_⟩
  ·simp [Value.ownBlock] at e; subst e; exact Nat.le_trans hN hs
  ·intro i y z hy hz
   cases i with
   | zero => simp at hy hz; subst hy; subst hz; exact (HH.out.up hb).up (below_alloc _ _)
   | succ i => cases i with
    | zero => simp at hy hz; subst hy; subst hz; exact HR.out.up (below_alloc _ _)
    | succ i => simp at hy
 ·rintro e2 w2 ⟨v, rfl, hv, hb2⟩
  have HV : Hid (PIn (d + 2) (From N) w2 v (eitherP [x, rowP []])) := hv
  clear hv
  go_wp2_with fail
  go_ret
  refine ⟨v, rfl, HV.out, ?_⟩
  exact (hb.trans ((below_alloc w1 _).mono hs)).trans (hb2.mono (Nat.le_trans hs (below_alloc w1 _).size))
structure PS where
 p : Nat
 f : Int
 pl : Int
 a : Int
 k : Int
namespace PS
def tk (T : ByteArray) (s : PS) : List UInt8 := (tokp T s.p).toList
def failAt (T : ByteArray) (s : PS) (no at_ : Int) : PS := { s with p := T.size, f := pf s.f no, pl := pp s.f at_ s.pl }
def fail (T : ByteArray) (s : PS) (no : Int) : PS := s.failAt T no s.p
def step (T : ByteArray) (s : PS) : PS := { s with p := nextp T s.p }
def take (T : ByteArray) (L : List ByteArray) (s : PS) : PS := if memL L (s.tk T) = true then s.step T else s
def need (T : ByteArray) (L : List ByteArray) (s : PS) : PS := if memL L (s.tk T) = true then s.step T else s.fail T 2
end PS
def takenOf (T : ByteArray) (L : List ByteArray) (p : Nat) : ByteArray := if memL L (tokp T p).toList = true then tokp T p else ⟨#[]⟩
theorem nextp_le (T : ByteArray) (p : Nat) (hp : p ≤ T.size) : nextp T p ≤ T.size ∧ p ≤ nextp T p ∧ (p < T.size → p < nextp T p) := by
 have h1 := tokEnd_le T p
 have h2 := skip_le T (tokEnd T p)
 have h3 := h2.2 (h1.2.1 hp)
 unfold nextp
 refine ⟨h3, by omega, fun h => ?_⟩
 have := h1.2.2 h; omega
structure RAt (w : World) (b : Nat) (T : ByteArray) (vN vE vL : Value) (s : PS) : Prop where
 blk : PAt w b T s.p vN vE vL s.f s.pl
 le : s.p ≤ T.size
 short : T.size ≤ 1000
theorem RAt.lt {w : World} {b : Nat} {T : ByteArray} {vN vE vL : Value} {s : PS} (h : RAt w b T vN vE vL s) : b < w.heap.size := heap_lt h.blk
theorem RAt.later {w w' : World} {b : Nat} {T : ByteArray} {vN vE vL : Value} {s : PS} (h : RAt w b T vN vE vL s) (hb : Below w.heap.size w w') : RAt w' b T vN vE vL s :=
 ⟨by show w'.heap[b]? = _; rw [hb.block b h.lt]; exact h.blk, h.le, h.short⟩
theorem bdrew {B : Nat} {a w : World} (h : Below B a w) (n : Nat) : Below B a (w.drewN n) := ⟨h.os, h.tape, h.output, h.size, h.block⟩
theorem Chg.of_alloc {p : Nat → Prop} (w : World) (o : Obj) : Chg p w (w.alloc o) := (Chg.refl _ _).alloc o
theorem these_new (L : List ByteArray) (w : World) (hL : L.length ≤ 100) (h1 : 1 ≤ L.length) : These (w.alloc (.cells (L.map .string).toArray 9)) (.slice (some ⟨w.heap.size, 0, none⟩) L.length L.length) L := by
 refine ⟨⟨by simp, Or.inr ⟨w.heap.size, L.length, (L.map .string).toArray, rfl, Nat.zero_le _, heap_alloc_new _ _, Nat.le_refl _, by simp only [maxLen]; omega, by simp, by simp [List.take_of_length_le]⟩⟩, hL⟩
theorem is_new (b : Nat) (T : ByteArray) (vN vE vL : Value) (s : PS) (L : List ByteArray) (w : World) (h : RAt w b T vN vE vL s) (hL : L.length ≤ 100) (h1 : 1 ≤ L.length) :
  Calls Tryz.prog 76 #[.pointer (some ⟨b, 0, none⟩), .slice (some ⟨w.heap.size, 0, none⟩) L.length L.length] (w.alloc (.cells (L.map .string).toArray 9)) fun r w' => r = .returned (.bool (memL L (s.tk T))) ∧ Below w.heap.size w w' := by
 have h2 := h.later (below_alloc w (.cells (L.map .string).toArray 9))
 refine (is_any b T s.p vN vE vL s.f s.pl _ L _ h2.blk h.le (these_new L w hL h1)).mono ?_
 rintro r w' ⟨rfl, n, rfl⟩
 exact ⟨rfl, bdrew (below_alloc w _) n⟩
theorem take_new (b : Nat) (T : ByteArray) (vN vE vL : Value) (s : PS) (L : List ByteArray) (w : World) (h : RAt w b T vN vE vL s) (hL : L.length ≤ 100) (h1 : 1 ≤ L.length) :
  Calls Tryz.prog 131 #[.pointer (some ⟨b, 0, none⟩), .slice (some ⟨w.heap.size, 0, none⟩) L.length L.length] (w.alloc (.cells (L.map .string).toArray 9)) fun r w' => r = .returned (.string (takenOf T L s.p)) ∧ RAt w' b T vN vE vL (s.take T L) ∧ Chg (fun k => k = b) w w' := by
 have h2 := h.later (below_alloc w (.cells (L.map .string).toArray 9))
 have hc : Chg (fun k => k = b) w (w.alloc (.cells (L.map .string).toArray 9)) := Chg.of_alloc _ _
 cases hm : memL L (s.tk T)
 ·refine (take_no b T s.p vN vE vL s.f s.pl _ L _ h2.blk h.le (these_new L w hL h1) hm).mono ?_
  rintro r w' ⟨rfl, n, rfl⟩
  refine ⟨?_, ?_, hc.drewN n⟩
  ·unfold takenOf; rw [show memL L (tokp T s.p).toList = false from hm]; rfl
  ·unfold PS.take; rw [hm]; exact ⟨pat_drewN h2.blk n, h.le, h.short⟩
 ·refine (take_yes b T s.p vN vE vL s.f s.pl _ L _ h2.blk h.le h.short (these_new L w hL h1) hm).mono ?_
  rintro r w' ⟨rfl, hp, hc2⟩
  refine ⟨?_, ?_, hc.trans hc2⟩
  ·unfold takenOf; rw [show memL L (tokp T s.p).toList = true from hm]; rfl
  ·unfold PS.take; rw [hm]; exact ⟨hp, (nextp_le T s.p h.le).1, h.short⟩
theorem need_new (b : Nat) (T : ByteArray) (vN vE vL : Value) (s : PS) (L : List ByteArray) (w : World) (h : RAt w b T vN vE vL s) (hL : L.length ≤ 100) (h1 : 1 ≤ L.length) (hne : ∀ x ∈ L, x.toList ≠ []) :
  Calls Tryz.prog 128 #[.pointer (some ⟨b, 0, none⟩), .slice (some ⟨w.heap.size, 0, none⟩) L.length L.length] (w.alloc (.cells (L.map .string).toArray 9)) fun r w' => r = .returned (.string (takenOf T L s.p)) ∧ RAt w' b T vN vE vL (s.need T L) ∧ Chg (fun k => k = b) w w' := by
 have h2 := h.later (below_alloc w (.cells (L.map .string).toArray 9))
 have hc : Chg (fun k => k = b) w (w.alloc (.cells (L.map .string).toArray 9)) := Chg.of_alloc _ _
 cases hm : memL L (s.tk T)
 ·refine (need_no b T s.p vN vE vL s.f s.pl _ L _ h2.blk h.le (these_new L w hL h1) hm).mono ?_
  rintro r w' ⟨rfl, hp, hc2⟩
  refine ⟨?_, ?_, hc.trans hc2⟩
  ·unfold takenOf; rw [show memL L (tokp T s.p).toList = false from hm]; rfl
  ·unfold PS.need; rw [hm]; exact ⟨hp, Nat.le_refl _, h.short⟩
 ·refine (need_yes b T s.p vN vE vL s.f s.pl _ L _ h2.blk h.le h.short (these_new L w hL h1) hm hne).mono ?_
  rintro r w' ⟨rfl, hp, hc2⟩
  refine ⟨?_, ?_, hc.trans hc2⟩
  ·unfold takenOf; rw [show memL L (tokp T s.p).toList = true from hm]; rfl
  ·unfold PS.need; rw [hm]; exact ⟨hp, (nextp_le T s.p h.le).1, h.short⟩
theorem failAt_ps (b : Nat) (T : ByteArray) (vN vE vL : Value) (s : PS) (no at_ : Int) (w : World) (h : RAt w b T vN vE vL s) :
  Calls Tryz.prog 134 #[.pointer (some ⟨b, 0, none⟩), .int .i64 no, .int .i64 at_] w fun r w' => r = .returned (.tuple #[]) ∧ RAt w' b T vN vE vL (s.failAt T no at_) ∧ Chg (fun k => k = b) w w' := by
 refine (failAt_any b T s.p (tokEnd T s.p) vN vE vL s.f s.pl no at_ w h.blk).mono ?_
 rintro r w' ⟨rfl, hp, hc⟩
 refine ⟨rfl, ⟨?_, Nat.le_refl _, h.short⟩, hc⟩
 show PBlk _ _ _ _ _ _ _ _ _ _
 rw [show (s.failAt T no at_).p = T.size from rfl, tokEnd_size]; exact hp
theorem fail_ps (b : Nat) (T : ByteArray) (vN vE vL : Value) (s : PS) (no : Int) (w : World) (h : RAt w b T vN vE vL s) :
  Calls Tryz.prog 80 #[.pointer (some ⟨b, 0, none⟩), .int .i64 no] w fun r w' => r = .returned (.tuple #[]) ∧ RAt w' b T vN vE vL (s.fail T no) ∧ Chg (fun k => k = b) w w' := by
 refine (fail_pr b T s.p (tokEnd T s.p) vN vE vL s.f s.pl no w h.blk).mono ?_
 rintro r w' ⟨rfl, hp, hc⟩
 refine ⟨rfl, ⟨?_, Nat.le_refl _, h.short⟩, hc⟩
 show PBlk _ _ _ _ _ _ _ _ _ _
 rw [show (s.fail T no).p = T.size from rfl, tokEnd_size]; exact hp
theorem step_ps (b : Nat) (T : ByteArray) (vN vE vL : Value) (s : PS) (w : World) (h : RAt w b T vN vE vL s) :
  Calls Tryz.prog 75 #[.pointer (some ⟨b, 0, none⟩)] w fun r w' => r = .returned (.tuple #[]) ∧ RAt w' b T vN vE vL (s.step T) ∧ Chg (fun k => k = b) w w' := by
 refine (step_any b T s.p (tokEnd T s.p) vN vE vL s.f s.pl w h.blk ((tokEnd_le T s.p).2.1 h.le) h.short).mono ?_
 rintro r w' ⟨rfl, hp, hc⟩
 exact ⟨rfl, ⟨hp, (nextp_le T s.p h.le).1, h.short⟩, hc⟩
theorem now_ps (b : Nat) (T : ByteArray) (vN vE vL : Value) (s : PS) (w : World) (h : RAt w b T vN vE vL s) :
  Calls Tryz.prog 127 #[.pointer (some ⟨b, 0, none⟩)] w fun r w' => r = .returned (.string (tokp T s.p)) ∧ ∃ n, w' = w.drewN n :=
 now_any b T s.p (tokEnd T s.p) vN vE vL s.f s.pl w h.blk (tokEnd_le T s.p).1 ((tokEnd_le T s.p).2.1 h.le)
theorem RAt.drewN {w : World} {b : Nat} {T : ByteArray} {vN vE vL : Value} {s : PS} (h : RAt w b T vN vE vL s) (n : Nat) : RAt (w.drewN n) b T vN vE vL s := ⟨h.blk, h.le, h.short⟩
theorem isWordBut_new (b : Nat) (T : ByteArray) (vN vE vL : Value) (s : PS) (L : List ByteArray) (w : World) (h : RAt w b T vN vE vL s) (hL : L.length ≤ 100) (h1 : 1 ≤ L.length) :
  Calls Tryz.prog 170 #[.pointer (some ⟨b, 0, none⟩), .slice (some ⟨w.heap.size, 0, none⟩) L.length L.length] (w.alloc (.cells (L.map .string).toArray 9)) fun r w' => r = .returned (.bool (wordp T s.p && !memL L (s.tk T))) ∧ Below w.heap.size w w' := by
 have h2 := h.later (below_alloc w (.cells (L.map .string).toArray 9))
 refine (isWordBut_any b T s.p vN vE vL s.f s.pl _ L _ h2.blk h.le (these_new L w hL h1)).mono ?_
 rintro r w' ⟨rfl, n, rfl⟩
 exact ⟨rfl, bdrew (below_alloc w _) n⟩
def wClass : ByteArray := ⟨#[99, 108, 97, 115, 115]⟩
def wCut : ByteArray := ⟨#[99, 117, 116]⟩
def wJoin : ByteArray := ⟨#[106, 111, 105, 110]⟩
def sgn (c : UInt8) : ByteArray := ⟨#[c]⟩
def PS.isAtom (T : ByteArray) (s : PS) : Bool := memL [sgn 40] (s.tk T) || (wordp T s.p && !memL [wClass, wCut, wJoin] (s.tk T))
set_option maxHeartbeats 1000000 in
theorem isAtom_any (b : Nat) (T : ByteArray) (vN vE vL : Value) (s : PS) (w : World) (h : RAt w b T vN vE vL s) :
  Calls Tryz.prog 224 #[.pointer (some ⟨b, 0, none⟩)] w fun r w' => r = .returned (.bool (s.isAtom T)) ∧ Below w.heap.size w w' := by
 have HH : Hid (RAt w b T vN vE vL s) := h
 clear h
 cases hm : memL [sgn 40] (s.tk T)
 ·have e : Hid (s.isAtom T = (wordp T s.p && !memL [wClass, wCut, wJoin] (s.tk T))) := by show _ = _; unfold PS.isAtom; rw [hm]; rfl
  rw [e.out]
  go_enter Tryz.func224, Tryz.ntmps224
  go_wp2_with fail
  refine (is_new b T vN vE vL s [sgn 40] w HH.out (by decide) (by decide)).mono ?_
  rintro r w1 ⟨rfl, hb⟩
  rw [hm]
  have H1 : Hid (RAt w1 b T vN vE vL s) := HH.out.later hb
  go_wp2_with fail
  refine (isWordBut_new b T vN vE vL s [wClass, wCut, wJoin] w1 H1.out (by decide) (by decide)).mono ?_
  rintro r w2 ⟨rfl, hb2⟩
  go_wp2_with fail
  go_ret
  exact ⟨rfl, hb.trans (hb2.mono hb.size)⟩
 ·have e : Hid (s.isAtom T = true) := by show _ = _; unfold PS.isAtom; rw [hm]; rfl
  rw [e.out]
  go_enter Tryz.func224, Tryz.ntmps224
  go_wp2_with fail
  refine (is_new b T vN vE vL s [sgn 40] w HH.out (by decide) (by decide)).mono ?_
  rintro r w1 ⟨rfl, hb⟩
  rw [hm]
  go_wp2_with fail
  go_ret
  exact ⟨rfl, hb⟩
set_option maxHeartbeats 2000000 in
theorem only_any (g k : Nat) (w : World) (hk : k ≤ 7) (h : w.cell? ⟨g, 0, none⟩ = some (.int .u8 k)) :
  Calls Tryz.prog 87 #[.slice (some ⟨g, 0, none⟩) 1 1] w fun e w' => e = .returned (.int .u8 (2 ^ k : Nat)) ∧ w' = w := by
 obtain ⟨r, hr⟩ : ∃ r : Int, r = ((2 ^ k : Nat) : Int) := ⟨_, rfl⟩
 rw [← hr]
 have HR : Hid (r = ((2 ^ k : Nat) : Int)) := hr
 clear hr
 have hc : k = 0 ∨ k = 1 ∨ k = 2 ∨ k = 3 ∨ k = 4 ∨ k = 5 ∨ k = 6 ∨ k = 7 := by omega
 rcases hc with rfl | rfl | rfl | rfl | rfl | rfl | rfl | rfl
 all_goals
  clear hk
  go_enter Tryz.func87, Tryz.ntmps87
  go_wp2_with fail
  go_loopg [3, 8] 1 (fun gg sv iv wx => wx = w ∧ ((gg = 1 ∧ iv = .int .i64 0 ∧ sv = .int .u8 0) ∨ (gg = 0 ∧ iv = .int .i64 1 ∧ ∃ v, sv = .int .u8 v ∧ Hid (v = r))))
  case atStart => exact ⟨rfl, Or.inl ⟨rfl, rfl, rfl⟩⟩
  case round =>
   obtain ⟨rfl, ⟨rfl, rfl, rfl⟩ | ⟨rfl, rfl, v, rfl, hs⟩⟩ := hrel
   ·go_wp2_with fail
    go_roundg 0
    case measure => omega
    case rel => exact ⟨rfl, Or.inr ⟨rfl, rfl, _, rfl, by show _ = r; rw [HR.out]; decide⟩⟩
   ·go_wp2_with fail
    go_ret
    exact ⟨ret_int hs.out, rfl⟩
def wAny : ByteArray := ⟨#[97, 110, 121]⟩
def wOther : ByteArray := ⟨#[111, 116, 104, 101, 114]⟩
def wBad : ByteArray := ⟨#[98, 97, 100]⟩
def meaningP (names : List ByteArray) (l : List UInt8) : Nat × Bool :=
 if l = [97, 110, 121] then (255, true) else if l = [111, 116, 104, 101, 114] then (64, true) else if l = [98, 97, 100] then (128, true)
 else (2 ^ (max (clsIx names l) 0).toNat, decide (0 ≤ clsIx names l))
theorem clsIx_lt (names : List ByteArray) (l : List UInt8) : -1 ≤ clsIx names l ∧ clsIx names l < (names.length : Int) + 1 ∧ (0 < names.length → clsIx names l < names.length) := by
 unfold clsIx
 cases hfi : names.findIdx? (fun y => y.toList == l) with
 | none => simp; omega
 | some i => have := (List.findIdx?_eq_some_iff_getElem.1 hfi).1; simp; omega
theorem meaningP_lt (names : List ByteArray) (l : List UInt8) (h : names.length ≤ 7) : (meaningP names l).1 < 256 := by
 unfold meaningP
 split
 ·decide
 ·split
  ·decide
  ·split
   ·decide
   ·have := clsIx_lt names l
    have h1 : (max (clsIx names l) 0).toNat ≤ 7 := by omega
    calc 2 ^ (max (clsIx names l) 0).toNat ≤ 2 ^ 7 := Nat.pow_le_pow_right (by decide) h1
     _ < 256 := by decide
set_option maxRecDepth 100000 in
set_option maxHeartbeats 2000000 in
theorem meaning_any (b : Nat) (T : ByteArray) (vN vE vL : Value) (s : PS) (names : List ByteArray) (x : ByteArray) (w : World) (h : RAt w b T vN vE vL s) (hN : w.ownsRow 0 9 1 vN names.length (names.map .string)) (hl : names.length ≤ 7) :
  Calls Tryz.prog 253 #[.pointer (some ⟨b, 0, none⟩), .string x] w fun r w' => r = .returned (.tuple #[.int .u8 (meaningP names x.toList).1, .bool (meaningP names x.toList).2]) ∧ Below w.heap.size w w' := by
 have HH : Hid (RAt w b T vN vE vL s) := h
 have HN : Hid (w.ownsRow 0 9 1 vN names.length (names.map .string)) := hN
 clear h hN
 by_cases h1 : x.toList = [97, 110, 121]
 ·have k1 : (x.toList == [97, 110, 121]) = true := by simpa using h1
  have e : Hid (meaningP names x.toList = (255, true)) := by show _ = _; unfold meaningP; rw [if_pos h1]
  rw [e.out]
  clear h1
  go_enter Tryz.func253, Tryz.ntmps253
  go_wp2_with fail
  go_ret2
  exact ⟨rfl, Below.refl _ _⟩
 ·have k1 : (x.toList == [97, 110, 121]) = false := by simpa using h1
  by_cases h2 : x.toList = [111, 116, 104, 101, 114]
  ·have k2 : (x.toList == [111, 116, 104, 101, 114]) = true := by simpa using h2
   have e : Hid (meaningP names x.toList = (64, true)) := by show _ = _; unfold meaningP; rw [if_neg h1, if_pos h2]
   rw [e.out]
   clear h1 h2
   go_enter Tryz.func253, Tryz.ntmps253
   go_wp2_with fail
   refine (only_any w.heap.size 6 _ (by decide) (cell_of_block (heap_alloc_new _ _) 0 _ rfl)).mono ?_
   rintro r w1 ⟨rfl, rfl⟩
   go_wp2_with fail
   go_ret2
   exact ⟨rfl, below_alloc _ _⟩
  ·have k2 : (x.toList == [111, 116, 104, 101, 114]) = false := by simpa using h2
   by_cases h3 : x.toList = [98, 97, 100]
   ·have k3 : (x.toList == [98, 97, 100]) = true := by simpa using h3
    have e : Hid (meaningP names x.toList = (128, true)) := by show _ = _; unfold meaningP; rw [if_neg h1, if_neg h2, if_pos h3]
    rw [e.out]
    clear h1 h2 h3
    go_enter Tryz.func253, Tryz.ntmps253
    go_wp2_with fail
    refine (only_any w.heap.size 7 _ (by decide) (cell_of_block (heap_alloc_new _ _) 0 _ rfl)).mono ?_
    rintro r w1 ⟨rfl, rfl⟩
    go_wp2_with fail
    go_ret2
    exact ⟨rfl, below_alloc _ _⟩
   ·have k3 : (x.toList == [98, 97, 100]) = false := by simpa using h3
    have e : Hid (meaningP names x.toList = (2 ^ (max (clsIx names x.toList) 0).toNat, decide (0 ≤ clsIx names x.toList))) := by show _ = _; unfold meaningP; rw [if_neg h1, if_neg h2, if_neg h3]
    rw [e.out]
    have hb := clsIx_lt names x.toList
    obtain ⟨i, hi⟩ : ∃ i : Nat, i = (max (clsIx names x.toList) 0).toNat := ⟨_, rfl⟩
    have hi2 : max (clsIx names x.toList) 0 = (i : Int) := by omega
    have hi7 : i ≤ 7 := by omega
    obtain ⟨d, hd⟩ : ∃ d, d = decide (0 ≤ clsIx names x.toList) := ⟨_, rfl⟩
    have HK := kindOf_any b 0 T s.p vN vE vL s.f s.pl names x w HH.out.blk HN.out (by omega)
    rw [hi2, ← hd] at HK
    rw [← hi, ← hd]
    have HK2 : Hid (Calls Tryz.prog 171 #[.pointer (some ⟨b, 0, none⟩), .string x] w fun r w' => r = .returned (.tuple #[.int .u8 i, .bool d]) ∧ w' = w) := HK
    clear h1 h2 h3 hi hi2 hd HK hb
    go_enter Tryz.func253, Tryz.ntmps253
    go_wp2_with fail
    refine HK2.out.mono ?_
    rintro r w1 ⟨rfl, rfl⟩
    go_wp2_with fail
    refine (only_any _ i _ hi7 (cell_of_block (heap_alloc_new _ _) 0 _ rfl)).mono ?_
    rintro r w1 ⟨rfl, rfl⟩
    go_wp2_with fail
    go_ret2
    exact ⟨rfl, below_alloc _ _⟩
end Go.Proofs.YtodagkkjfipbgaaGreatDoor
