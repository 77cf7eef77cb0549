import Derived.Test.YtodagkkjfipbgaaGreatDoorT32toT29
namespace Go.Proofs.YtodagkkjfipbgaaGreatDoor
open Go.RowKit Go.Maps Go.Lib
def StmC (full : Nat) (fp : Option Addr) (wf : Bool) : Array Value := #[.int .i64 full, .pointer fp, .bool wf]
structure SRest (w0 : World) (S : Nat → Prop) (w : World) (p full f gR : Nat) (H : List Hd) (V : List Vw) (s : FS) : Prop where
 blk : w.heap[p]? = some (.cells (StmC full (some ⟨f, 0, none⟩) false) 132 (0, 0))
 out : ¬ S p
 fl : FRest w0 (fun k => S k ∨ k = p) w f gR H V s
set_option maxRecDepth 100000 in
theorem fault_ok (w : World) (p full f : Nat) (h : w.heap[p]? = some (.cells (StmC full (some ⟨f, 0, none⟩) false) 132 (0, 0))) :
  Calls Tryz.prog 71 #[.pointer (some ⟨p, 0, none⟩)] w fun r w' => r = .returned (.int .i64 0) ∧ w' = w := by
 have c1 : w.cell? ⟨p, 1, none⟩ = some (.pointer (some ⟨f, 0, none⟩)) := cell_of_block h 1 _ rfl
 have c2 : w.cell? ⟨p, 2, none⟩ = some (.bool false) := cell_of_block h 2 _ rfl
 go_enter Tryz.func71, Tryz.ntmps71
 go_wp2_with fail
 go_ret
 exact ⟨rfl, rfl⟩
set_option maxRecDepth 100000 in
theorem fault_full (w : World) (p full : Nat) (h : w.heap[p]? = some (.cells (StmC full none true) 132 (0, 0))) :
  Calls Tryz.prog 71 #[.pointer (some ⟨p, 0, none⟩)] w fun r w' => r = .returned (.int .i64 7) ∧ w' = w := by
 have c2 : w.cell? ⟨p, 2, none⟩ = some (.bool true) := cell_of_block h 2 _ rfl
 go_enter Tryz.func71, Tryz.ntmps71
 go_wp2_with fail
 go_ret
 exact ⟨rfl, rfl⟩
set_option maxRecDepth 100000 in
theorem fault_shut (w : World) (p full : Nat) (h : w.heap[p]? = some (.cells (StmC full none false) 132 (0, 0))) :
  Calls Tryz.prog 71 #[.pointer (some ⟨p, 0, none⟩)] w fun r w' => r = .returned (.int .i64 8) ∧ w' = w := by
 have c1 : w.cell? ⟨p, 1, none⟩ = some (.pointer none) := cell_of_block h 1 _ rfl
 have c2 : w.cell? ⟨p, 2, none⟩ = some (.bool false) := cell_of_block h 2 _ rfl
 go_enter Tryz.func71, Tryz.ntmps71
 go_wp2_with fail
 go_ret
 exact ⟨rfl, rfl⟩
set_option maxRecDepth 100000 in
set_option maxHeartbeats 2000000 in
theorem open_any (w : World) (gR full : Nat) (H : List Hd) (V : List Vw) (L : List (Int × Int × Nat)) (ks : List Nat) (hE : FEnv w gR H V L ks) (hf1 : 1 ≤ full) (hf2 : full ≤ 100000) :
  Calls Tryz.prog 33 #[.pointer (some ⟨gR, 0, none⟩), .int .i64 full] w fun r w' => ∃ p f, r = .returned (.tuple #[.pointer (some ⟨p, 0, none⟩), .int .i64 0]) ∧ w.heap.size ≤ p ∧ SRest w (fun k => k < w.heap.size) w' p full f gR H V FS.new ∧ Below w.heap.size w w' := by
 have MK : Hid (∀ W', Below w.heap.size w W' → W'.heap.size = w.heap.size → Calls Tryz.prog 66 #[.pointer (some ⟨gR, 0, none⟩), .pointer (some ⟨gR, 2, none⟩)] W' fun r w' => ∃ f, r = .returned (.pointer (some ⟨f, 0, none⟩)) ∧ Below w.heap.size w w' ∧ FRest w (fun k => k < w.heap.size) w' f gR H V FS.new) := fun W' hb hz => (fmake_any W' gR H V L ks (hE.below hb)).mono fun r w' h => by
  obtain ⟨f, h1, _, h3, h4⟩ := h
  rw [hz] at h3 h4
  exact ⟨f, h1, hb.trans h4, h3.base hb⟩
 have FIN : Hid (∀ (f : Nat) (W1 : World), Below w.heap.size w W1 → FRest w (fun k => k < w.heap.size) W1 f gR H V FS.new → SRest w (fun k => k < w.heap.size) (W1.alloc (.cells #[.int .i64 full, .pointer (some ⟨f, 0, none⟩), .bool false] 132)) W1.heap.size full f gR H V FS.new ∧ Below w.heap.size w (W1.alloc (.cells #[.int .i64 full, .pointer (some ⟨f, 0, none⟩), .bool false] 132)) ∧ w.heap.size ≤ W1.heap.size) := fun f W1 hb hF => by
  have b2 := below_alloc W1 (.cells #[.int .i64 full, .pointer (some ⟨f, 0, none⟩), .bool false] 132)
  have hz := hb.size
  have hz2 : (W1.alloc (.cells #[.int .i64 full, .pointer (some ⟨f, 0, none⟩), .bool false] 132)).heap.size = W1.heap.size + 1 := by simp
  refine ⟨⟨heap_alloc_new W1 _, by omega, hF.apart hE (p := fun _ => False) (Chg.of_below b2) (fun _ _ h => h.elim) (fun _ h => h.elim) (fun k h => ?_) ⟨fun k h => Or.inl h, fun k h => ?_⟩⟩, hb.trans (b2.mono hz), hz⟩
  ·rcases h with h | h
   ·exact Or.inl h
   ·exact Or.inr (by rw [h]; exact Nat.le_refl _)
  ·rw [hz2]
   rcases h with h | h <;> omega
 have hd1 : decide ((full : Int) < 1) = false := decide_eq_false (by omega)
 have hd2 : decide ((100000 : Int) < full) = false := decide_eq_false (by omega)
 clear hE
 go_enter Tryz.func33, Tryz.ntmps33
 go_wp2_with fail
 go_region_with (go_at_call 66; refine (MK.out _ ((Below.refl _ _).drew) rfl).mono ?_; rintro e W1 ⟨f, rfl, hB1, hF1⟩; have P1 : Hid (Below w.heap.size w W1 ∧ FRest w (fun k => k < w.heap.size) W1 f gR H V FS.new) := ⟨hB1, hF1⟩; clear hB1 hF1)
 all_goals go_wp2_with fail
 all_goals go_ret2
 all_goals exact ⟨_, _, rfl, (FIN.out _ _ P1.out.1 P1.out.2).2.2, (FIN.out _ _ P1.out.1 P1.out.2).1, (FIN.out _ _ P1.out.1 P1.out.2).2.1⟩
theorem SRest.apart {w0 w w' : World} {S S' q : Nat → Prop} {p full f gR : Nat} {H : List Hd} {V : List Vw} {L : List (Int × Int × Nat)} {ks : List Nat} {s : FS} (hE : FEnv w0 gR H V L ks) (h : SRest w0 S w p full f gR H V s) (hc : Chg q w w') (hq : ∀ k, k < w.heap.size → q k → S k) (hq0 : ∀ k, q k → w0.heap.size ≤ k) (hS : ∀ k, S' k → S k ∨ w.heap.size ≤ k) (hK : Kept S' w0 w') : SRest w0 S' w' p full f gR H V s := by
 have hp := heap_lt h.blk
 refine ⟨(hc.block p hp fun h9 => h.out (hq p hp h9)).trans h.blk, fun h9 => ?_, h.fl.apart hE hc (fun k hk h9 => Or.inl (hq k hk h9)) hq0 (fun k h9 => ?_) ⟨fun k hk => Or.inl (hK.lo k hk), fun k h9 => ?_⟩⟩
 ·rcases hS p h9 with h1 | h1
  ·exact h.out h1
  ·omega
 ·rcases h9 with h9 | h9
  ·rcases hS k h9 with h1 | h1
   ·exact Or.inl (Or.inl h1)
   ·exact Or.inr h1
  ·exact Or.inl (Or.inr h9)
 ·rcases h9 with h9 | h9
  ·exact hK.hi k h9
  ·rw [h9]; exact Nat.lt_of_lt_of_le hp hc.size
theorem Kept.or {S : Nat → Prop} {w0 w : World} {p : Nat} (h : Kept (fun k => S k ∨ k = p) w0 w) (hp : w0.heap.size ≤ p) : Kept S w0 w := ⟨fun k hk => by rcases h.lo k hk with h1 | h1; exact h1; omega, fun k hk => h.hi k (Or.inl hk)⟩
theorem Sav.or {S : Nat → Prop} {w w' : World} {p : Nat} (h : Sav (fun k => S k ∨ k = p) w w') : Sav S w w' := h.mono fun _ _ h1 h2 => h1 (Or.inl h2)
set_option maxRecDepth 100000 in
set_option maxHeartbeats 4000000 in
theorem write_any (w0 w : World) (S : Nat → Prop) (p full f gR : Nat) (H : List Hd) (V : List Vw) (L : List (Int × Int × Nat)) (ks : List Nat) (s : FS) (bs : ByteArray) (ad : Addr) (cb : Nat) (hE : FEnv w0 gR H V L ks) (h : SRest w0 S w p full f gR H V s) (hto : s.told = []) (hbs : ∀ j u, (byCells bs)[j]? = some u → w.cell? (ad.add j) = some u) (hlen : s.txt.size + bs.size ≤ 1500000) :
  Calls Tryz.prog 40 #[.pointer (some ⟨p, 0, none⟩), .slice (some ad) bs.size cb] w fun r w' => ∃ v' s2, TakeR H V L { s with txt := s.txt ++ bs } s2 ∧ w'.ownsRow w.heap.size 9 1 v' s2.told.length (strCells s2.told) ∧ Sav S w w' ∧
   (s2.txt.size ≤ full → r = .returned (.tuple #[v', .int .i64 0]) ∧ SRest w0 S w' p full f gR H V { s2 with told := [] }) ∧ (full < s2.txt.size → r = .returned (.tuple #[v', .int .i64 7]) ∧ w'.heap[p]? = some (.cells (StmC full none true) 132 (0, 0))) := by
 have HB : Hid (w.heap[p]? = some (.cells (StmC full (some ⟨f, 0, none⟩) false) 132 (0, 0))) := h.blk
 have HP : Hid (¬ S p) := h.out
 have hfa := fault_ok w p full f h.blk
 have c1 : w.cell? ⟨p, 1, none⟩ = some (.pointer (some ⟨f, 0, none⟩)) := cell_of_block h.blk 1 _ rfl
 have htk := ftake_any w0 w (fun k => S k ∨ k = p) f gR H V L ks s bs ad cb hE h.fl hto hbs hlen
 have HE : Hid (FEnv w0 gR H V L ks) := hE
 clear h hto hbs hE
 go_enter Tryz.func40, Tryz.ntmps40
 go_wp2_with fail
 refine hfa.mono ?_
 rintro r W0 ⟨rfl, rfl⟩
 clear hfa
 go_wp2_with fail
 refine htk.mono ?_
 rintro r W1 ⟨v', s2, rfl, hT, hR, hF, hS⟩
 obtain ⟨ao, cap, rfl⟩ := row_shape hR
 obtain ⟨⟨b2, m1, m2, vT, hP2, hq2⟩, hq3⟩ := hF
 obtain ⟨aoT, capT, rfl⟩ := hP2.ht.shape
 have T2 : Hid (TakeR H V L { s with txt := s.txt ++ bs } s2) := hT
 have R2 : Hid (W1.ownsRow W0.heap.size 9 1 (.slice ao s2.told.length cap) s2.told.length (strCells s2.told)) := hR
 have F2 : Hid (FRest w0 (fun k => S k ∨ k = p) W1 f gR H V s2) := ⟨⟨b2, m1, m2, _, hP2, hq2⟩, hq3⟩
 have S2 : Hid (Sav (fun k => S k ∨ k = p) W0 W1) := hS
 have hb1 : W1.heap[p]? = some (.cells (StmC full (some ⟨f, 0, none⟩) false) 132 (0, 0)) := (hS.block p (heap_lt HB.out) (fun h9 => h9 (Or.inr rfl))).trans HB.out
 have B1 : Hid (W1.heap[p]? = some (.cells (StmC full (some ⟨f, 0, none⟩) false) 132 (0, 0))) := hb1
 have d0 : W1.cell? ⟨p, 0, none⟩ = some (.int .i64 full) := cell_of_block hb1 0 _ rfl
 have d1 : W1.cell? ⟨p, 1, none⟩ = some (.pointer (some ⟨f, 0, none⟩)) := cell_of_block hb1 1 _ rfl
 have d2 : W1.cell? ⟨p, 2, none⟩ = some (.bool false) := cell_of_block hb1 2 _ rfl
 have fr := free_of_block hb1
 have hfit := hP2.fits.2
 have UN : Hid (∀ W', Below W1.heap.size W1 W' → Calls Tryz.prog 73 #[.pointer (some ⟨f, 0, none⟩)] W' fun r w' => r = .returned (.int .i64 s2.txt.size) ∧ w' = W') := fun W' hb => untold_any W' f gR b2 s2.txt.size s2.kn capT aoT ((hb.block _ (heap_lt hP2.hf)).trans hP2.hf)
 clear htk hT hR hP2 hq2 hq3 hS c1 hb1
 go_upto_region 5 with fail
 go_cut [28] from 19 to 27 (fun cv wx => cv = .bool (decide (full < s2.txt.size)) ∧ wx = W1.drew)
 case first =>
  go_region_with (go_at_call 73; refine (UN.out _ ((Below.refl _ _).drew)).mono ?_; rintro e W2 ⟨rfl, rfl⟩)
  all_goals go_wp2_with fail
  all_goals go_meet
  all_goals exact ⟨rfl, rfl⟩
 case rest =>
  obtain ⟨rfl, rfl⟩ := hcut
  have SS : Hid (Sav S W0 W1.drew) := S2.out.or.drew
  by_cases hlt : full < s2.txt.size
  ·have hdd : decide (full < s2.txt.size) = true := decide_eq_true hlt
   have hfu : ((W1.setCell ⟨p, 1, none⟩ (.pointer none)).setCell ⟨p, 2, none⟩ (.bool true)).drew.heap[p]? = some (.cells (StmC full none true) 132 (0, 0)) := (block_setCell ((block_setCell B1.out 1 _).trans rfl) 2 _).trans rfl
   have FU : Hid (((W1.setCell ⟨p, 1, none⟩ (.pointer none)).setCell ⟨p, 2, none⟩ (.bool true)).drew.heap[p]? = some (.cells (StmC full none true) 132 (0, 0))) := hfu
   have SF : Hid (Sav S W0 ((W1.setCell ⟨p, 1, none⟩ (.pointer none)).setCell ⟨p, 2, none⟩ (.bool true)).drew) := ((S2.out.or.setCell (q := ⟨p, 1, none⟩) (Or.inr HP.out) _).setCell (q := ⟨p, 2, none⟩) (Or.inr HP.out) _).drew
   have RF : Hid (((W1.setCell ⟨p, 1, none⟩ (.pointer none)).setCell ⟨p, 2, none⟩ (.bool true)).drew.ownsRow W0.heap.size 9 1 (.slice ao s2.told.length cap) s2.told.length (strCells s2.told)) := row_kp R2.out (((Kp.refl _ _).setCell B1.out (by decide) _).setCell ((block_setCell (w := W1) B1.out 1 _).trans rfl) (by decide) _)
   have hfa := fault_full _ p full hfu
   clear hfu
   go_wp2_with fail
   refine hfa.mono ?_
   rintro r W4 ⟨rfl, rfl⟩
   go_wp2_with fail
   go_ret2
   exact ⟨_, s2, T2.out, RF.out, SF.out, fun h9 => absurd hlt (Nat.not_lt.2 h9), fun _ => ⟨rfl, FU.out⟩⟩
  ·have hdd : decide (full < s2.txt.size) = false := decide_eq_false hlt
   have hfa := fault_ok W1.drew p full f B1.out
   have FD : Hid (SRest w0 S W1.drew p full f gR H V { s2 with told := [] }) := ⟨B1.out, HP.out, (F2.out.apart HE.out (p := fun _ => False) (Chg.of_below (Below.refl _ _).drew) (fun _ _ h => h.elim) (fun _ h => h.elim) (fun k h => Or.inl h) (F2.out.size.2.1.grow (Nat.le_refl _))).told⟩
   go_wp2_with fail
   refine hfa.mono ?_
   rintro r W4 ⟨rfl, rfl⟩
   go_wp2_with fail
   go_ret2
   exact ⟨_, s2, T2.out, R2.out, SS.out, fun _ => ⟨rfl, FD.out⟩, fun h9 => absurd h9 hlt⟩
set_option maxRecDepth 100000 in
set_option maxHeartbeats 4000000 in
theorem close_any (w0 w : World) (S : Nat → Prop) (p full f gR : Nat) (H : List Hd) (V : List Vw) (L : List (Int × Int × Nat)) (ks : List Nat) (s : FS) (hE : FEnv w0 gR H V L ks) (h : SRest w0 S w p full f gR H V s) :
  Calls Tryz.prog 41 #[.pointer (some ⟨p, 0, none⟩)] w fun r w' => ∃ v', r = .returned (.tuple #[v', .int .i64 0]) ∧ w'.ownsRow w.heap.size 9 1 v' (endS H V s).told.length (strCells (endS H V s).told) ∧ Sav S w w' ∧ w'.heap[p]? = some (.cells (StmC full none false) 132 (0, 0)) := by
 have HB : Hid (w.heap[p]? = some (.cells (StmC full (some ⟨f, 0, none⟩) false) 132 (0, 0))) := h.blk
 have HP : Hid (¬ S p) := h.out
 have hfa := fault_ok w p full f h.blk
 have c1 : w.cell? ⟨p, 1, none⟩ = some (.pointer (some ⟨f, 0, none⟩)) := cell_of_block h.blk 1 _ rfl
 have hen := fend_any w0 w (fun k => S k ∨ k = p) f gR H V L ks s hE h.fl
 obtain ⟨told, htd⟩ : ∃ told, told = (endS H V s).told := ⟨_, rfl⟩
 rw [← htd] at hen ⊢
 clear h hE htd
 go_enter Tryz.func41, Tryz.ntmps41
 go_wp2_with fail
 refine hfa.mono ?_
 rintro r W0 ⟨rfl, rfl⟩
 clear hfa
 go_wp2_with fail
 refine hen.mono ?_
 rintro r W1 ⟨⟨v', rfl, hR⟩, hS⟩
 obtain ⟨ao, cap, rfl⟩ := row_shape hR
 have hb1 : W1.heap[p]? = some (.cells (StmC full (some ⟨f, 0, none⟩) false) 132 (0, 0)) := (hS.block p (heap_lt HB.out) (fun h9 => h9 (Or.inr rfl))).trans HB.out
 have d1 : W1.cell? ⟨p, 1, none⟩ = some (.pointer (some ⟨f, 0, none⟩)) := cell_of_block hb1 1 _ rfl
 have fr := free_of_block hb1
 have FB : Hid ((W1.setCell ⟨p, 1, none⟩ (.pointer none)).heap[p]? = some (.cells (StmC full none false) 132 (0, 0))) := (block_setCell hb1 1 _).trans rfl
 have FS : Hid (Sav S W0 (W1.setCell ⟨p, 1, none⟩ (.pointer none))) := hS.or.setCell (q := ⟨p, 1, none⟩) (Or.inr HP.out) _
 have FR : Hid ((W1.setCell ⟨p, 1, none⟩ (.pointer none)).ownsRow W0.heap.size 9 1 (.slice ao told.length cap) told.length (strCells told)) := row_kp hR ((Kp.refl _ _).setCell hb1 (by decide) _)
 clear hen hR hS hb1 c1
 go_wp2_with fail
 go_ret2
 exact ⟨_, rfl, FR.out, FS.out, FB.out⟩
set_option maxRecDepth 100000 in
theorem close_full (w : World) (p full : Nat) (h : w.heap[p]? = some (.cells (StmC full none true) 132 (0, 0))) :
  Calls Tryz.prog 41 #[.pointer (some ⟨p, 0, none⟩)] w fun r w' => r = .returned (.tuple #[.slice none 0 0, .int .i64 7]) ∧ w' = w := by
 have hfa := fault_full w p full h
 go_enter Tryz.func41, Tryz.ntmps41
 go_wp2_with fail
 refine hfa.mono ?_
 rintro r W0 ⟨rfl, rfl⟩
 go_wp2_with fail
 go_ret2
 exact ⟨rfl, rfl⟩
set_option maxRecDepth 100000 in
theorem close_shut (w : World) (p full : Nat) (h : w.heap[p]? = some (.cells (StmC full none false) 132 (0, 0))) :
  Calls Tryz.prog 41 #[.pointer (some ⟨p, 0, none⟩)] w fun r w' => r = .returned (.tuple #[.slice none 0 0, .int .i64 8]) ∧ w' = w := by
 have hfa := fault_shut w p full h
 go_enter Tryz.func41, Tryz.ntmps41
 go_wp2_with fail
 refine hfa.mono ?_
 rintro r W0 ⟨rfl, rfl⟩
 go_wp2_with fail
 go_ret2
 exact ⟨rfl, rfl⟩
def pickP (c : Int) (n : Nat) : Nat := ((if c < 0 then -(c + 1) else c) % (n : Int)).toNat
theorem pickP_lt (c : Int) {n : Nat} (hn : 1 ≤ n) : pickP c n < n := by
 unfold pickP
 have h1 := Int.emod_nonneg (if c < 0 then -(c + 1) else c) (b := (n : Int)) (by omega)
 have h2 := Int.emod_lt_of_pos (if c < 0 then -(c + 1) else c) (b := (n : Int)) (by omega)
 omega
theorem pickP_is {c : Int} (hc : 0 ≤ c) {n : Nat} (hn : 1 ≤ n) : c.tmod (n : Int) = (pickP c n : Nat) := by
 unfold pickP
 rw [if_neg (by omega), Int.tmod_eq_emod_of_nonneg hc]
 have h1 := Int.emod_nonneg c (b := (n : Int)) (by omega)
 omega
theorem pickP_neg {c : Int} (hc : c < 0) (n : Nat) : pickP c n = pickP (-(c + 1)) n := by
 unfold pickP
 rw [if_pos hc, if_neg (by omega)]
set_option maxRecDepth 100000 in
set_option maxHeartbeats 1000000 in
theorem pick_any (c : Int) (n : Nat) (w : World) (hc1 : -9223372036854775808 ≤ c) (hc2 : c ≤ 9223372036854775807) (hn1 : 1 ≤ n) (hn2 : n ≤ 1000) :
  Calls Tryz.prog 38 #[.int .i64 c, .int .i64 n] w fun r w' => r = .returned (.int .i64 (pickP c n : Nat)) ∧ w' = w := by
 by_cases h : c < 0
 ·have hd : decide (c < 0) = true := decide_eq_true h
  have e1 : wrap64 (c + 1) = c + 1 := by unfold wrap64; omega
  have e2 : wrap64 (-(c + 1)) = -(c + 1) := by unfold wrap64; omega
  have e3 : (-(c + 1)).tmod (n : Int) = (pickP c n : Nat) := by rw [pickP_neg h]; exact pickP_is (by omega) hn1
  have hlt := pickP_lt c hn1
  go_enter Tryz.func38, Tryz.ntmps38
  go_wp2_with fail
  go_ret
  exact ⟨rfl, rfl⟩
 ·have hd : decide (c < 0) = false := decide_eq_false h
  have e3 : c.tmod (n : Int) = (pickP c n : Nat) := pickP_is (by omega) hn1
  have hlt := pickP_lt c hn1
  go_enter Tryz.func38, Tryz.ntmps38
  go_wp2_with fail
  go_ret
  exact ⟨rfl, rfl⟩
def digB (i : Nat) : UInt8 := UInt8.ofNat (48 + i)
set_option maxRecDepth 100000 in
set_option maxHeartbeats 1000000 in
theorem itoa_digit (i : Nat) (w : World) (hi : i < 10) :
  Calls Tryz.prog 39 #[.int .i64 i] w fun r w' => r = .returned (.string ⟨#[digB i]⟩) ∧ w' = w := by
 have hsm : Calls Tryz.prog 161 #[.int .i64 i] w fun r w' => r = .returned (.string ⟨#[digB i]⟩) ∧ w' = w := by
  rcases i with _ | _ | _ | _ | _ | _ | _ | _ | _ | _ | i
  all_goals first | omega | skip
  all_goals go_enter Tryz.func161, Tryz.ntmps161
  all_goals go_wp2_with fail
  all_goals go_ret
  all_goals exact ⟨rfl, rfl⟩
 have hfo : Calls Tryz.prog 118 #[.int .i64 i, .int .i64 10] w fun r w' => r = .returned (.string ⟨#[digB i]⟩) ∧ w' = w := by
  have d1 : decide ((0 : Int) ≤ (i : Int)) = true := decide_eq_true (by omega)
  have d2 : decide ((i : Int) < 100) = true := decide_eq_true (by omega)
  go_enter Tryz.func118, Tryz.ntmps118
  go_wp2_with fail
  refine hsm.mono ?_
  rintro r W ⟨rfl, rfl⟩
  go_wp2_with fail
  go_ret
  exact ⟨rfl, rfl⟩
 have hin : Calls Tryz.prog 70 #[.int .i64 i] w fun r w' => r = .returned (.string ⟨#[digB i]⟩) ∧ w' = w := by
  go_enter Tryz.func70, Tryz.ntmps70
  go_wp2_with fail
  refine hfo.mono ?_
  rintro r W ⟨rfl, rfl⟩
  go_wp2_with fail
  go_ret
  exact ⟨rfl, rfl⟩
 go_enter Tryz.func39, Tryz.ntmps39
 go_wp2_with fail
 refine hin.mono ?_
 rintro r W ⟨rfl, rfl⟩
 go_wp2_with fail
 go_ret
 exact ⟨rfl, rfl⟩
theorem make_u8 (W : World) (n : Nat) (hn : n ≤ 2000000) : (Instr.makeSlice 63 (.int .i64 n) (.int .i64 n)).run Tryz.prog W = .ok (.slice (some ⟨W.heap.size, 0, none⟩) n n) (W.alloc (.cells (byCells ⟨Array.replicate n 0⟩).toArray 5)) := by
 obtain ⟨i, hi, hz0, hz1, hz2⟩ := info_parts Tryz.infoU8
 have h := run_make (P := Tryz.prog) W 63 5 i (.int .u8 0) Tryz.undU8 hi hz0 .i64 .i64 n n (by omega) (by omega) (by rw [hz2]; omega) (by omega)
 rw [hz1] at h
 have e : (byCells ⟨Array.replicate n 0⟩).toArray = madeCells #[.int .u8 0] n := by
  apply Array.toList_inj.1
  rw [made_one]
  unfold byCells
  simp
 rw [e]
 simpa [Value.cells] using h
def setB (s : ByteArray) (i : Nat) (x : UInt8) : ByteArray := ⟨s.data.setIfInBounds i x⟩
theorem setB_size (s : ByteArray) (i : Nat) (x : UInt8) : (setB s i x).size = s.size := by show (s.data.setIfInBounds i x).size = s.data.size; simp
theorem byCells_set (s : ByteArray) (i : Nat) (x : UInt8) : (byCells s).toArray.setIfInBounds i (.int .u8 (x.toNat : Int)) = (byCells (setB s i x)).toArray := by
 unfold byCells setB
 apply Array.ext'
 simp [List.map_set]
theorem ascii_set {s : ByteArray} (h : Ascii s) (i : Nat) {x : UInt8} (hx : x.toNat < 128) : Ascii (setB s i x) := by
 intro j hj
 rw [setB_size] at hj
 have hz := setB_size s i x
 unfold byte
 rw [Utf8W.get!_of_lt (setB s i x) j (by omega)]
 show ((s.data.setIfInBounds i x)[j]'(by simpa using hj)).toNat < 128
 rw [Array.getElem_setIfInBounds]
 split
 ·exact hx
 ·have := h j hj
  unfold byte at this
  rw [Utf8W.get!_of_lt s j hj] at this
  exact this
theorem ascii_app {a b : ByteArray} (ha : Ascii a) (hb : Ascii b) : Ascii (a ++ b) := by
 intro j hj
 rw [ByteArray.size_append] at hj
 unfold byte
 rcases Nat.lt_or_ge j a.size with h | h
 ·rw [get_left a b j h]; exact ha j h
 ·have e : (a ++ b).get! j = b.get! (j - a.size) := by
   rw [Utf8W.get!_of_lt (a ++ b) j (by rw [ByteArray.size_append]; omega), Utf8W.get!_of_lt b (j - a.size) (by omega)]
   exact ByteArray.getElem_append_right h
  rw [e]; exact hb _ (by omega)
theorem ascii_zeros (n : Nat) : Ascii ⟨Array.replicate n 0⟩ := by
 intro j hj
 unfold byte
 rw [Utf8W.get!_of_lt _ j hj]
 show ((Array.replicate n (0 : UInt8))[j]'hj).toNat < 128
 rw [Array.getElem_replicate]
 decide
def StT (w2 w3 wx : World) (k : Nat) : Prop := k < w2.heap.size ∨ (w3.heap.size ≤ k ∧ k < wx.heap.size)
def SsS (w1 w2 w3 : World) (k : Nat) : Prop := k < w1.heap.size ∨ (w2.heap.size ≤ k ∧ k < w3.heap.size)
structure CEnv (w1 w2 w3 : World) (n g : Nat) (H : List Hd) (V : List Vw) (L : List (Int × Int × Nat)) : Prop where
 env : FEnv w1 g H V L (possOf L)
 rul : RulP (read2 joinT).2 L (possOf L) H V
 ins : ∃ vE vJ vP vH vV, RulesIn w1 g joinT vE vJ vP vH vV L
 few : n ≤ 300
 s12 : w1.heap.size ≤ w2.heap.size
 s23 : w2.heap.size ≤ w3.heap.size
structure CSt (w1 w2 w3 wx : World) (p pt n f ft g : Nat) (H : List Hd) (V : List Vw) (L : List (Int × Int × Nat)) (at_ : Nat) : Prop where
 bel : Below w1.heap.size w1 wx
 grown : w3.heap.size ≤ wx.heap.size
 tt : SRest w1 (StT w2 w3 wx) wx pt n ft g H V FS.new
 ss : (at_ ≤ n ∧ ∃ C fs T, SRest w1 (SsS w1 w2 w3) wx p n f g H V fs ∧ Rests H V L T C [] fs ∧ T.size = at_ ∧ Ascii T) ∨ (n < at_ ∧ wx.heap[p]? = some (.cells (StmC n none true) 132 (0, 0)))
theorem byCells_in {w : World} {q : Nat} {bs : ByteArray} {m : Nat × Nat} (h : w.heap[q]? = some (.cells (byCells bs).toArray 5 m)) : ∀ j u, (byCells bs)[j]? = some u → w.cell? ((⟨q, 0, none⟩ : Addr).add j) = some u := fun j u hu => by
 rw [show (⟨q, 0, none⟩ : Addr).add j = ⟨q, 0 + j, none⟩ from by unfold Addr.add; split <;> simp_all, Nat.zero_add]
 simp [World.cell?, h, hu]
theorem kept_s {w1 w2 w3 wy : World} (h1 : w1.heap.size ≤ wy.heap.size) (h2 : w3.heap.size ≤ wy.heap.size) : Kept (SsS w1 w2 w3) w1 wy := ⟨fun k hk => Or.inl hk, fun k hk => by rcases hk with h | h <;> omega⟩
theorem kept_t {w1 w2 w3 wy : World} (h0 : w1.heap.size ≤ w2.heap.size) (h1 : w2.heap.size ≤ wy.heap.size) : Kept (StT w2 w3 wy) w1 wy := ⟨fun k hk => Or.inl (by omega), fun k hk => by rcases hk with h | h <;> omega⟩
theorem ascii_a : Ascii ⟨#[97]⟩ := by
 intro j hj
 have : j = 0 := by have : (⟨#[97]⟩ : ByteArray).size = 1 := rfl; omega
 subst this
 decide
theorem cwrite {w1 w2 w3 wx wy : World} {p pt n f ft g : Nat} {H : List Hd} {V : List Vw} {L : List (Int × Int × Nat)} {at_ : Nat} (hC : CEnv w1 w2 w3 n g H V L) (h : CSt w1 w2 w3 wx p pt n f ft g H V L at_) (hat : at_ ≤ n) (hb : Below wx.heap.size wx wy) {q cb by_ : Nat} {bs : ByteArray} (hz : bs.size = by_) (hby : by_ ≤ 20) (ha : Ascii bs) (hq : wy.heap[q]? = some (.cells (byCells bs).toArray 5 (0, 0))) :
  Calls Tryz.prog 40 #[.pointer (some ⟨p, 0, none⟩), .slice (some ⟨q, 0, none⟩) by_ cb] wy fun r wz => ∃ ao cap, r = .returned (.tuple #[.slice ao 0 cap, .int .i64 (if at_ + by_ ≤ n then 0 else 7)]) ∧ CSt w1 w2 w3 wz p pt n f ft g H V L (at_ + by_) := by
 obtain ⟨vE, vJ, vP, vH, vV, hI⟩ := hC.ins
 have hn := hC.few
 have s12 := hC.s12
 have s23 := hC.s23
 have hg := h.grown
 have hbz := hb.size
 rcases h.ss with ⟨_, C, fs, T, hS, hR, hT, hA⟩ | ⟨h9, _⟩
 ·have hS' : SRest w1 (SsS w1 w2 w3) wy p n f g H V fs := hS.apart hC.env (q := fun _ => False) (Chg.of_below hb) (fun _ _ h => h.elim) (fun _ h => h.elim) (fun _ h => Or.inl h) (kept_s (by omega) (by omega))
  have hw := (join_waits hI hC.rul hR (ascii_app hA ascii_a)).2
  have hwa := write_any w1 wy (SsS w1 w2 w3) p n f g H V L (possOf L) fs bs ⟨q, 0, none⟩ cb hC.env hS' hR.told (byCells_in hq) (by rw [hw]; omega)
  rw [hz] at hwa
  refine hwa.mono ?_
  rintro r wz ⟨v', s2, hT2, hrow, hsav, h1, h2⟩
  obtain ⟨C2, hR2⟩ := hR.take hC.rul.kinds bs hT2
  obtain ⟨e1, e2⟩ := join_waits hI hC.rul hR2 (ascii_app (ascii_app hA ha) ascii_a)
  rw [List.nil_append] at e1
  have e2' : s2.txt = T ++ bs := e2
  have hsz : s2.txt.size = at_ + by_ := by rw [e2', ByteArray.size_append, hT, hz]
  rw [e1] at hrow
  obtain ⟨ao, cap, rfl⟩ := row_shape hrow
  rw [List.nil_append, e1] at hR2
  have lowS : ∀ k, ¬ SsS w1 w2 w3 k → w1.heap.size ≤ k := fun k hk => Nat.le_of_not_lt fun h9 => hk (Or.inl h9)
  have hbw : Below w1.heap.size w1 wz := (h.bel.trans (hb.mono (by omega))).trans (hsav.low (by omega) lowS)
  have hzz := hsav.size
  have htt : SRest w1 (StT w2 w3 wz) wz pt n ft g H V FS.new := h.tt.apart hC.env ((Chg.of_below hb).trans hsav) (fun k hk h9 => ?_) lowS (fun k h9 => ?_) (kept_t s12 (by omega))
  ·by_cases hle : at_ + by_ ≤ n
   ·obtain ⟨e3, hS2⟩ := h1 (by omega)
    refine ⟨ao, cap, by rw [if_pos hle]; exact e3, hbw, by omega, htt, Or.inl ⟨hle, C2, _, T ++ bs, hS2, hR2, by rw [ByteArray.size_append, hT, hz], ascii_app hA ha⟩⟩
   ·obtain ⟨e3, hS2⟩ := h2 (by omega)
    exact ⟨ao, cap, by rw [if_neg hle]; exact e3, hbw, by omega, htt, Or.inr ⟨by omega, hS2⟩⟩
  ·rcases Nat.lt_or_ge k w2.heap.size with h8 | h8
   ·exact Or.inl h8
   ·rcases Nat.lt_or_ge k w3.heap.size with h7 | h7
    ·exact absurd (Or.inr ⟨h8, h7⟩) h9
    ·exact Or.inr ⟨h7, hk⟩
  ·rcases h9 with h9 | h9
   ·exact Or.inl (Or.inl h9)
   ·rcases Nat.lt_or_ge k wx.heap.size with h7 | h7
    ·exact Or.inl (Or.inr ⟨h9.1, h7⟩)
    ·exact Or.inr h7
 ·omega
theorem ctwrite {w1 w2 w3 wx wy : World} {p pt n f ft g : Nat} {H : List Hd} {V : List Vw} {L : List (Int × Int × Nat)} {at_ : Nat} (hC : CEnv w1 w2 w3 n g H V L) (h : CSt w1 w2 w3 wx p pt n f ft g H V L at_) (hn1 : 1 ≤ n) (hb : Below wx.heap.size wx wy) {q cb : Nat} (hq : wy.heap[q]? = some (.cells (byCells ⟨Array.replicate n 0⟩).toArray 5 (0, 0))) :
  Calls Tryz.prog 40 #[.pointer (some ⟨pt, 0, none⟩), .slice (some ⟨q, 0, none⟩) n cb] wy fun r wz => ∃ ao cap, r = .returned (.tuple #[.slice ao 0 cap, .int .i64 0]) ∧ Below w1.heap.size w1 wz ∧ ∃ S fs, (∀ k, k < w1.heap.size → S k) ∧ SRest w1 S wz pt n ft g H V fs ∧ (endS H V fs).told = [⟨Array.replicate n 0⟩] := by
 obtain ⟨vE, vJ, vP, vH, vV, hI⟩ := hC.ins
 have hn := hC.few
 have s12 := hC.s12
 have s23 := hC.s23
 have hg := h.grown
 have hbz := hb.size
 have hT0 : (⟨Array.replicate n 0⟩ : ByteArray).size = n := by show (Array.replicate n (0 : UInt8)).size = n; simp
 have hS' : SRest w1 (StT w2 w3 wx) wy pt n ft g H V FS.new := h.tt.apart hC.env (q := fun _ => False) (Chg.of_below hb) (fun _ _ h => h.elim) (fun _ h => h.elim) (fun _ h => Or.inl h) ⟨fun k hk => Or.inl (by omega), fun k hk => by rcases hk with h | h <;> omega⟩
 have hR : Rests H V L ⟨#[]⟩ [] [] FS.new := Rests.new H V L
 have hwa := write_any w1 wy (StT w2 w3 wx) pt n ft g H V L (possOf L) FS.new ⟨Array.replicate n 0⟩ ⟨q, 0, none⟩ cb hC.env hS' rfl (byCells_in hq) (by rw [hT0]; show 0 + n ≤ _; omega)
 rw [hT0] at hwa
 refine hwa.mono ?_
 rintro r wz ⟨v', s2, hT2, hrow, hsav, h1, _⟩
 obtain ⟨C2, hR2⟩ := hR.take hC.rul.kinds _ hT2
 have e0 : (⟨#[]⟩ ++ ⟨Array.replicate n 0⟩ : ByteArray) = ⟨Array.replicate n 0⟩ := by
  apply ba_ext
  rw [ByteArray.toList_eq, ByteArray.toList_eq]
  simp
 rw [e0] at hR2
 obtain ⟨e1, e2⟩ := join_waits hI hC.rul hR2 (ascii_app (ascii_zeros n) ascii_a)
 rw [List.nil_append] at e1
 have e2' : s2.txt = ⟨Array.replicate n 0⟩ := e2
 have hsz : s2.txt.size = n := by rw [e2', hT0]
 rw [e1] at hrow
 obtain ⟨ao, cap, rfl⟩ := row_shape hrow
 rw [List.nil_append, e1] at hR2
 have lowS : ∀ k, ¬ StT w2 w3 wx k → w1.heap.size ≤ k := fun k hk => Nat.le_of_not_lt fun h9 => hk (Or.inl (by omega))
 have hbw : Below w1.heap.size w1 wz := (h.bel.trans (hb.mono (by omega))).trans (hsav.low (by omega) lowS)
 obtain ⟨e3, hS2⟩ := h1 (by omega)
 exact ⟨ao, cap, e3, hbw, _, _, fun k hk => Or.inl (by omega), hS2, join_ends hI hC.rul hR2 (ascii_zeros n) (by omega)⟩
theorem SRest.base {w00 w0 w : World} {S : Nat → Prop} {p full f gR : Nat} {H : List Hd} {V : List Vw} {s : FS} (h : SRest w0 S w p full f gR H V s) (hb : Below w00.heap.size w00 w0) : SRest w00 S w p full f gR H V s := ⟨h.blk, h.out, h.fl.base hb⟩
theorem cstart {w1 w2 w3 : World} {p pt n f ft g : Nat} {H : List Hd} {V : List Vw} {L : List (Int × Int × Nat)} (hC : CEnv w1 w2 w3 n g H V L) (h1 : SRest w1 (fun k => k < w1.heap.size) w2 p n f g H V FS.new) (b1 : Below w1.heap.size w1 w2) (h2 : SRest w2 (fun k => k < w2.heap.size) w3 pt n ft g H V FS.new) (b2 : Below w2.heap.size w2 w3) : CSt w1 w2 w3 w3 p pt n f ft g H V L 0 := by
 have s12 := hC.s12
 have s23 := hC.s23
 refine ⟨b1.trans (b2.mono s12), Nat.le_refl _, ?_, Or.inl ⟨Nat.zero_le _, [], FS.new, ⟨#[]⟩, ?_, Rests.new H V L, rfl, fun j hj => absurd hj (Nat.not_lt_zero _)⟩⟩
 ·exact (h2.base b1).apart hC.env (q := fun _ => False) (Chg.refl _ _) (fun _ _ h => h.elim) (fun _ h => h.elim) (fun k h => by rcases h with h | h; exact Or.inl h; exact Or.inr h.1) (kept_t s12 s23)
 ·exact h1.apart hC.env (q := fun _ => False) (Chg.of_below b2) (fun _ _ h => h.elim) (fun _ h => h.elim) (fun k h => by rcases h with h | h; exact Or.inl h; exact Or.inr h.1) (kept_s (by omega) (Nat.le_refl _))
theorem digB_lt {i : Nat} (h : i < 10) : (digB i).toNat = 48 + i := by
 unfold digB
 rw [UInt8.toNat_ofNat']
 omega
set_option maxRecDepth 100000 in
set_option maxHeartbeats 8000000 in
theorem counted_pr (a b : Int) (w : World) (hV : VarsOk w) (ha1 : -9223372036854775808 ≤ a) (ha2 : a ≤ 9223372036854775807) (hb1 : -9223372036854775808 ≤ b) (hb2 : b ≤ 9223372036854775807) :
  Calls Tryz.prog 13 #[.int .i64 a, .int .i64 b] w fun r w' => r = .returned (.bool true) ∧ Below w.heap.size w w' := by
 have HV : Hid (VarsOk w) := hV
 have hp1 := pick_any a 300 w ha1 ha2 (by decide) (by decide)
 have hp2 := pick_any b 20 w hb1 hb2 (by decide) (by decide)
 have l1 := pickP_lt a (n := 300) (by decide)
 have l2 := pickP_lt b (n := 20) (by decide)
 generalize pickP a 300 = n0 at hp1 l1
 generalize pickP b 20 = y0 at hp2 l2
 obtain ⟨n, hn⟩ : ∃ n : Nat, (n : Int) = 1 + (n0 : Int) := ⟨1 + n0, by omega⟩
 obtain ⟨y, hy⟩ : ∃ y : Nat, (y : Int) = 1 + (y0 : Int) := ⟨1 + y0, by omega⟩
 have hn1 : 1 ≤ n := by omega
 have hn2 : n ≤ 300 := by omega
 have hy1 : 1 ≤ y := by omega
 have hy2 : y ≤ 20 := by omega
 have HN : Hid ((n : Int) = 1 + (n0 : Int)) := hn
 have HY : Hid ((y : Int) = 1 + (y0 : Int)) := hy
 have hr := keepRules_ok joinT w hV.errs (by decide) joinT_read.1
 clear hV ha1 ha2 hb1 hb2 hn hy
 go_enter Tryz.func13, Tryz.ntmps13
 go_wp2_with fail
 refine hp1.mono ?_
 rintro r W ⟨rfl, rfl⟩
 clear hp1
 go_wp2_with fail
 refine hp2.mono ?_
 rintro r W ⟨rfl, rfl⟩
 clear hp2
 go_wp2_with fail
 refine hr.mono ?_
 rintro r w1 ⟨⟨v1, rfl, g, vE, vJ, vP, vH, vV, L, rfl, hR⟩, b1⟩
 have B1 : Hid (Below W.heap.size W w1) := b1
 obtain ⟨H, V, hE, hU⟩ := rules_stream hR joinT_read.1 (HV.out.below b1)
 have RI : Hid (RulesIn w1 g joinT vE vJ vP vH vV L) := hR
 have EE : Hid (FEnv w1 g H V L (possOf L)) := hE
 have UU : Hid (RulP (read2 joinT).2 L (possOf L) H V) := hU
 have ho1 := open_any w1 g n H V L (possOf L) hE hn1 (by omega)
 rw [← HN.out, ← HY.out]
 clear hr hR b1 hE hU l1 l2 HN HY
 go_wp2_with fail
 refine ho1.mono ?_
 rintro r w2 ⟨p, f, rfl, hp, hS, b2⟩
 have S2 : Hid (SRest w1 (fun k => k < w1.heap.size) w2 p n f g H V FS.new) := hS
 have B2 : Hid (Below w1.heap.size w1 w2) := b2
 have ho2 := open_any w2 g n H V L (possOf L) (EE.out.below b2) hn1 (by omega)
 clear ho1 hS b2 hp
 go_wp2_with fail
 refine ho2.mono ?_
 rintro r w3 ⟨pt, ft, rfl, hp, hS, b3⟩
 have CE : Hid (CEnv w1 w2 w3 n g H V L) := ⟨EE.out, UU.out, ⟨_, _, _, _, _, RI.out⟩, hn2, B2.out.size, b3.size⟩
 have CS : Hid (CSt w1 w2 w3 w3 p pt n f ft g H V L 0) := cstart CE.out S2.out B2.out hS b3
 clear ho2 hS b3 hp S2 B2 RI EE UU
 have hmky : ∀ W : World, (Instr.makeSlice 63 (.int .i64 y) (.int .i64 y)).run Tryz.prog W = .ok (.slice (some ⟨W.heap.size, 0, none⟩) y y) (W.alloc (.cells (byCells ⟨Array.replicate y 0⟩).toArray 5)) := fun W => make_u8 W y (by omega)
 have hmkn : ∀ W : World, (Instr.makeSlice 63 (.int .i64 n) (.int .i64 n)).run Tryz.prog W = .ok (.slice (some ⟨W.heap.size, 0, none⟩) n n) (W.alloc (.cells (byCells ⟨Array.replicate n 0⟩).toArray 5)) := fun W => make_u8 W n (by omega)
 go_wp2_with fail
 go_loopg [10] (n + 1) (fun gh av wx => ∃ at_ : Nat, at_ ≤ n + 20 ∧ gh = n + 1 - at_ ∧ av = .int .i64 at_ ∧ Hid (CSt w1 w2 w3 wx p pt n f ft g H V L at_))
 case atStart => exact ⟨0, Nat.zero_le _, rfl, rfl, CS⟩
 case round =>
  obtain ⟨at_, hat, rfl, rfl, hC⟩ := hrel
  obtain ⟨w4, hw4⟩ : ∃ w4, w4 = wr := ⟨wr, rfl⟩
  subst hw4
  clear CS
  by_cases hle : at_ ≤ n
  ·have hd1 : decide ((at_ : Int) ≤ (n : Int)) = true := decide_eq_true (by omega)
   obtain ⟨W5, hW5⟩ : ∃ W5, W5 = w4.alloc (.cells (byCells ⟨Array.replicate y 0⟩).toArray 5) := ⟨_, rfl⟩
   have HW5 : Hid (W5 = w4.alloc (.cells (byCells ⟨Array.replicate y 0⟩).toArray 5)) := hW5
   have hz0 : (⟨Array.replicate y 0⟩ : ByteArray).size = y := by show (Array.replicate y (0 : UInt8)).size = y; simp
   have Q5 : Hid (∃ bs : ByteArray, bs.size = y ∧ Ascii bs ∧ W5.heap[w4.heap.size]? = some (.cells (byCells bs).toArray 5 (0, 0))) := ⟨_, hz0, ascii_zeros y, by rw [hW5]; exact heap_alloc_new w4 _⟩
   have B5 : Hid (Below w4.heap.size w4 W5) := by rw [hW5]; exact below_alloc w4 _
   clear hW5 hz0
   go_wp2_with (simp only [hmky])
   rw [← HW5.out]
   clear HW5
   go_loopg [12] y (fun gh iv wx => ∃ i : Nat, i ≤ y ∧ gh = y - i ∧ iv = .int .i64 i ∧ Hid (Below w4.heap.size w4 wx) ∧ Hid (∃ bs : ByteArray, bs.size = y ∧ Ascii bs ∧ wx.heap[w4.heap.size]? = some (.cells (byCells bs).toArray 5 (0, 0))))
   case atStart => exact ⟨0, Nat.zero_le _, rfl, rfl, B5, Q5⟩
   case round =>
    obtain ⟨i, hi, rfl, rfl, hB, hQ⟩ := hrel
    obtain ⟨w6, hw6⟩ : ∃ w6, w6 = wr := ⟨wr, rfl⟩
    subst hw6
    clear B5 Q5
    by_cases hlt : i < y
    ·have hd2 : decide ((i : Int) < (y : Int)) = true := decide_eq_true (by omega)
     have hmod : (at_ : Int).tmod 10 = ((at_ % 10 : Nat) : Int) := by rw [Int.tmod_eq_emod_of_nonneg (by omega)]; omega
     have hlt10 : at_ % 10 < 10 := Nat.mod_lt _ (by decide)
     have hit := itoa_digit (at_ % 10) w6 hlt10
     obtain ⟨bs, e1, e2, e3⟩ := hQ.out
     obtain ⟨d, hdg⟩ : ∃ d : Nat, d = at_ % 10 := ⟨_, rfl⟩
     rw [← hdg] at hmod hlt10 hit
     have fr := free_of_block e3
     have ci : w6.cell? ⟨w4.heap.size, i, none⟩ = some (.int .u8 ((bs.get! i).toNat : Nat)) := cell_of_block e3 i _ (by rw [List.getElem?_toArray]; exact byCells_at bs i (by omega))
     have hdl : (digB d).toNat = 48 + d := digB_lt hlt10
     have Q7 : Hid (∃ bs' : ByteArray, bs'.size = y ∧ Ascii bs' ∧ (w6.setCell ⟨w4.heap.size, i, none⟩ (.int .u8 ((digB d).toNat : Int))).heap[w4.heap.size]? = some (.cells (byCells bs').toArray 5 (0, 0))) := ⟨setB bs i (digB d), by rw [setB_size]; exact e1, ascii_set e2 i (by omega), by rw [← byCells_set]; exact block_setCell e3 i _⟩
     have B7 : Hid (Below w4.heap.size w4 (w6.setCell ⟨w4.heap.size, i, none⟩ (.int .u8 ((digB d).toNat : Int)))) := hB.out.setCell (Nat.le_refl _) _
     clear hdg e2 e3 hQ hB e1 hdl
     go_wp2_with fail
     refine hit.mono ?_
     rintro r W7 ⟨rfl, rfl⟩
     clear hit
     go_wp2_with fail
     go_roundg (y - (i + 1))
     case measure => omega
     case rel => exact ⟨i + 1, by omega, rfl, by go_num, B7, Q7⟩
    ·obtain rfl : i = y := by omega
     have hd2 : decide ((i : Int) < (i : Int)) = false := decide_eq_false (by omega)
     obtain ⟨bs, e1, e2, e3⟩ := hQ.out
     have hwr := cwrite (cb := i) CE.out hC.out hle hB.out e1 hy2 e2 e3
     clear e1 e2 e3 hQ hB
     by_cases hfit : at_ + i ≤ n
     ·rw [if_pos hfit] at hwr
      have d3 : decide ((n : Int) < (at_ : Int) + (i : Int)) = false := decide_eq_false (by omega)
      have d4 : decide ((at_ : Int) + (i : Int) ≤ (n : Int)) = true := decide_eq_true (by omega)
      go_wp2_with fail
      refine hwr.mono ?_
      rintro r w8 ⟨ao, cap, rfl, hC8⟩
      have C8 : Hid (CSt w1 w2 w3 w8 p pt n f ft g H V L (at_ + i)) := hC8
      clear hwr hC8 hC
      go_wp2_with fail
      go_roundg (n + 1 - (at_ + i))
      case measure => omega
      case rel => exact ⟨at_ + i, by omega, rfl, by go_num, C8⟩
     ·rw [if_neg hfit] at hwr
      have d3 : decide ((n : Int) < (at_ : Int) + (i : Int)) = true := decide_eq_true (by omega)
      have d4 : decide ((at_ : Int) + (i : Int) ≤ (n : Int)) = false := decide_eq_false (by omega)
      go_wp2_with fail
      refine hwr.mono ?_
      rintro r w8 ⟨ao, cap, rfl, hC8⟩
      have C8 : Hid (CSt w1 w2 w3 w8 p pt n f ft g H V L (at_ + i)) := hC8
      clear hwr hC8 hC
      go_wp2_with fail
      go_roundg (n + 1 - (at_ + i))
      case measure => omega
      case rel => exact ⟨at_ + i, by omega, rfl, by go_num, C8⟩
  ·have hd1 : decide ((at_ : Int) ≤ (n : Int)) = false := decide_eq_false (by omega)
   have hcl : w4.heap[p]? = some (.cells (StmC n none true) 132 (0, 0)) := by
    rcases hC.out.ss with ⟨h9, _⟩ | ⟨_, h9⟩
    ·omega
    ·exact h9
   have hc1 := close_full w4 p n hcl
   obtain ⟨W5, hW5⟩ : ∃ W5, W5 = w4.alloc (.cells (byCells ⟨Array.replicate n 0⟩).toArray 5) := ⟨_, rfl⟩
   have HW5 : Hid (W5 = w4.alloc (.cells (byCells ⟨Array.replicate n 0⟩).toArray 5)) := hW5
   have hwt := ctwrite (cb := n) CE.out hC.out hn1 (wy := W5) (q := w4.heap.size) (by rw [hW5]; exact below_alloc w4 _) (by rw [hW5]; exact heap_alloc_new w4 _)
   clear hcl hW5 hC
   go_wp2_with fail
   refine hc1.mono ?_
   rintro r W6 ⟨rfl, rfl⟩
   clear hc1
   go_wp2_with fail
   rw [← HW5.out]
   refine hwt.mono ?_
   rintro r w7 ⟨ao7, cap7, rfl, hb7, S7, fs7, hlo7, hS7, ht7⟩
   have B7 : Hid (Below w1.heap.size w1 w7) := hb7
   have hc2 := close_any w1 w7 S7 pt n ft g H V L (possOf L) fs7 CE.out.env hS7
   have K7 : Hid (∀ w', Sav S7 w7 w' → Below w1.heap.size w1 w') := fun w' h9 => hb7.trans (h9.low hb7.size fun k hk => Nat.le_of_not_lt fun h8 => hk (hlo7 k h8))
   rw [ht7] at hc2
   clear hwt hb7 hlo7 hS7 ht7 HW5
   go_wp2_with fail
   refine hc2.mono ?_
   rintro r w8 ⟨v8, rfl, hrow, hsav, hbk⟩
   have B8 : Hid (Below w1.heap.size w1 w8) := K7.out w8 hsav
   obtain ⟨ao8, cap8, rfl⟩ := row_shape hrow
   obtain ⟨q8, hq8, _, hc8⟩ := row_at hrow (strCells_at (l := [⟨Array.replicate n 0⟩]) (i := 0) rfl) (by simp)
   subst hq8
   have hc3 := close_shut w8 pt n hbk
   have hz0 : (⟨Array.replicate n 0⟩ : ByteArray).size = n := by show (Array.replicate n (0 : UInt8)).size = n; simp
   obtain ⟨zz, hzz⟩ : ∃ zz : ByteArray, zz = ⟨Array.replicate n 0⟩ := ⟨_, rfl⟩
   rw [← hzz] at hz0 hc8
   clear hc2 hrow hsav hbk K7 hzz
   go_wp2_with fail
   refine hc3.mono ?_
   rintro r W9 ⟨rfl, rfl⟩
   go_wp2_with fail
   go_ret
   exact ⟨rfl, B1.out.trans (B8.out.mono B1.out.size)⟩
end Go.Proofs.YtodagkkjfipbgaaGreatDoor
