import Derived.Test.YtodagkkjfipbgaaGreatDoorG2toT13
namespace Go.Proofs.YtodagkkjfipbgaaGreatDoor
open Go.RowKit Go.Maps Go.Lib
set_option maxRecDepth 100000 in
theorem untold_any (w : World) (f gR b n kn cap : Nat) (ao : Option Addr) (hf : w.heap[f]? = some (.cells (FloC gR b (.slice ao n cap) kn) 215 (0, 0))) :
  Calls Tryz.prog 73 #[.pointer (some ⟨f, 0, none⟩)] w fun r w' => r = .returned (.int .i64 n) ∧ w' = w := by
 have c2 : w.cell? ⟨f, 2, none⟩ = some (.slice ao n cap) := cell_of_block hf 2 _ rfl
 clear hf
 go_enter Tryz.func73, Tryz.ntmps73
 go_wp2_with fail
 go_ret
 exact ⟨rfl, rfl⟩
theorem ByAt.part {w : World} {q o : Nat} {s : ByteArray} (h : ByAt w q o s) (a b : Nat) (hb : b ≤ s.size) : ByAt w q (o + a) (s.extract a b) := by
 intro j hj
 rw [ByteArray.size_extract] at hj
 have h1 := h (a + j) (by omega)
 rw [Nat.add_assoc, h1]
 have e : (s.extract a b).get! j = s.get! (a + j) := by
  rw [Utf8W.get!_of_lt s (a + j) (by omega), Utf8W.get!_of_lt (s.extract a b) j (by rw [ByteArray.size_extract]; omega)]
  simp [ByteArray.getElem_extract]
 rw [e]
set_option maxRecDepth 100000 in
set_option maxHeartbeats 4000000 in
theorem fnext_any (w0 w : World) (S : Nat → Prop) (f gR b kn : Nat) (vT : Value) (txt : ByteArray) (H : List Hd) (V : List Vw) (L : List (Int × Int × Nat)) (ks : List Nat) (hE : FEnv w0 gR H V L ks) (hB : Below w0.heap.size w0 w) (hf : w.heap[f]? = some (.cells (FloC gR b vT kn) 215 (0, 0))) (hT : TxtIn w S vT txt) (hkn : kn ≤ txt.size) (hlen : txt.size ≤ 1500000) :
  Calls Tryz.prog 119 #[.pointer (some ⟨f, 0, none⟩)] w fun r w' => (∃ k n : Nat, r = .returned (.tuple #[.int .u8 k, .int .i64 n]) ∧ NextIs L (txt.extract kn txt.size) k n) ∧ Below w.heap.size w w' := by
 have c0 : w.cell? ⟨f, 0, none⟩ = some (.pointer (some ⟨gR, 0, none⟩)) := cell_of_block hf 0 _ rfl
 have c2 : w.cell? ⟨f, 2, none⟩ = some vT := cell_of_block hf 2 _ rfl
 have c3 : w.cell? ⟨f, 3, none⟩ = some (.int .i64 kn) := cell_of_block hf 3 _ rfl
 have hfl := heap_lt hf
 have hxs : (txt.extract kn txt.size).size = txt.size - kn := by rw [ByteArray.size_extract]; omega
 obtain ⟨vE, hvE, hTR⟩ := hE.tab
 have hvw := (hE.vars).below hB
 have CN : ∀ (ao : Option Addr) (cap : Nat), ((txt.extract kn txt.size).size = 0 ∨ ∃ b o, ao = some ⟨b, o, none⟩ ∧ ByAt w b o (txt.extract kn txt.size)) → txt.size - kn ≤ cap → ∀ W', Below w.heap.size w W' → Calls Tryz.prog 165 #[.slice ao (txt.size - kn) cap, .pointer (some ⟨gR, 0, none⟩)] W' fun r w' => (∃ k n : Nat, r = .returned (.tuple #[.int .u8 k, .int .i64 n]) ∧ NextIs L (txt.extract kn txt.size) k n) ∧ Below W'.heap.size W' w' := fun ao cap hh hcap W' hW => by
  have hB' := hB.trans (hW.mono hB.size)
  have hv' := hE.vars.below hB'
  have := cnext_any 0 gR 0 vE L (txt.extract kn txt.size) ao cap W' hv'.utf hv'.low ((hB'.cell (p := ⟨gR, 0, none⟩) (cellLt hvE)).trans hvE) (row_kp hTR (Kp.below hB')) hE.few hE.row (hh.imp id fun ⟨b, o, e, h⟩ => ⟨b, o, e, h.below hW⟩) (by omega) (by omega)
  rw [hxs] at this
  exact this
 have HT : Hid (TxtIn w S vT txt) := hT
 clear hE hB hf hvE hTR hvw
 rcases hT with ⟨h0, ao, cap, rfl⟩ | ⟨q, o, cap, rfl, _, h3, h4, _⟩
 ·have hk0 : kn = 0 := by omega
  subst hk0
  have C1 : Hid (∀ (ao : Option Addr) (cap : Nat) (W' : World), Below w.heap.size w W' → Calls Tryz.prog 165 #[.slice ao 0 cap, .pointer (some ⟨gR, 0, none⟩)] W' fun r w' => (∃ k n : Nat, r = .returned (.tuple #[.int .u8 k, .int .i64 n]) ∧ NextIs L (txt.extract 0 txt.size) k n) ∧ Below W'.heap.size W' w') := fun ao cap W' hW => by
   have := CN ao cap (Or.inl (by omega)) (by omega) W' hW
   rw [h0] at this
   rw [h0]
   exact this
  clear CN
  cases ao with
  | none =>
   have HD : Hid ((w.drew.cell? ⟨f, 0, none⟩ = some (.pointer (some ⟨gR, 0, none⟩)) ∧ w.drew.cell? ⟨f, 2, none⟩ = some (.slice none 0 cap) ∧ w.drew.cell? ⟨f, 3, none⟩ = some (.int .i64 (0 : Nat)))) := ⟨c0, c2, c3⟩
   clear c0 c2 c3
   go_enter Tryz.func119, Tryz.ntmps119
   go_wp2_with fail
   go_region_held3 (fun w' => (w'.cell? ⟨f, 0, none⟩ = some (.pointer (some ⟨gR, 0, none⟩)) ∧ w'.cell? ⟨f, 2, none⟩ = some (.slice none 0 cap) ∧ w'.cell? ⟨f, 3, none⟩ = some (.int .i64 (0 : Nat))))
    (first | exact H3.out | exact HD.out)
    (first
     | (go_at_call 165
        refine (C1.out _ _ _ ((Below.refl _ _).drew)).mono ?_
        rintro e W3 ⟨⟨k, n, rfl, hN⟩, hb3⟩
        have HN : Hid (NextIs L (txt.extract 0 txt.size) k n) := hN
        have B3 : Hid (Below w.heap.size w W3) := below_drew hb3
        have H3 : Hid ((W3.cell? ⟨f, 0, none⟩ = some (.pointer (some ⟨gR, 0, none⟩)) ∧ W3.cell? ⟨f, 2, none⟩ = some (.slice none 0 cap) ∧ W3.cell? ⟨f, 3, none⟩ = some (.int .i64 (0 : Nat)))) := ⟨(B3.out.cell (p := ⟨f, 0, none⟩) hfl).trans HD.out.1, (B3.out.cell (p := ⟨f, 2, none⟩) hfl).trans HD.out.2.1, (B3.out.cell (p := ⟨f, 3, none⟩) hfl).trans HD.out.2.2⟩
        clear hN hb3))
   go_wp2_with fail
   go_ret2
   exact ⟨⟨k, n, rfl, HN.out⟩, B3.out⟩
  | some a =>
   have HD : Hid ((w.drew.cell? ⟨f, 0, none⟩ = some (.pointer (some ⟨gR, 0, none⟩)) ∧ w.drew.cell? ⟨f, 2, none⟩ = some (.slice (some a) 0 cap) ∧ w.drew.cell? ⟨f, 3, none⟩ = some (.int .i64 (0 : Nat)))) := ⟨c0, c2, c3⟩
   clear c0 c2 c3
   go_enter Tryz.func119, Tryz.ntmps119
   go_wp2_with fail
   go_region_held3 (fun w' => (w'.cell? ⟨f, 0, none⟩ = some (.pointer (some ⟨gR, 0, none⟩)) ∧ w'.cell? ⟨f, 2, none⟩ = some (.slice (some a) 0 cap) ∧ w'.cell? ⟨f, 3, none⟩ = some (.int .i64 (0 : Nat))))
    (first | exact H3.out | exact HD.out)
    (first
     | (go_at_call 165
        refine (C1.out _ _ _ ((Below.refl _ _).drew)).mono ?_
        rintro e W3 ⟨⟨k, n, rfl, hN⟩, hb3⟩
        have HN : Hid (NextIs L (txt.extract 0 txt.size) k n) := hN
        have B3 : Hid (Below w.heap.size w W3) := below_drew hb3
        have H3 : Hid ((W3.cell? ⟨f, 0, none⟩ = some (.pointer (some ⟨gR, 0, none⟩)) ∧ W3.cell? ⟨f, 2, none⟩ = some (.slice (some a) 0 cap) ∧ W3.cell? ⟨f, 3, none⟩ = some (.int .i64 (0 : Nat)))) := ⟨(B3.out.cell (p := ⟨f, 0, none⟩) hfl).trans HD.out.1, (B3.out.cell (p := ⟨f, 2, none⟩) hfl).trans HD.out.2.1, (B3.out.cell (p := ⟨f, 3, none⟩) hfl).trans HD.out.2.2⟩
        clear hN hb3))
   go_wp2_with fail
   go_ret2
   exact ⟨⟨k, n, rfl, HN.out⟩, B3.out⟩
 ·by_cases e : cap = kn
  ·have e2 : txt.size = kn := by omega
   have C1 : Hid (∀ (ao : Option Addr) (cap : Nat) (W' : World), Below w.heap.size w W' → Calls Tryz.prog 165 #[.slice ao 0 cap, .pointer (some ⟨gR, 0, none⟩)] W' fun r w' => (∃ k n : Nat, r = .returned (.tuple #[.int .u8 k, .int .i64 n]) ∧ NextIs L (txt.extract kn txt.size) k n) ∧ Below W'.heap.size W' w') := fun ao cap W' hW => by
    have := CN ao cap (Or.inl (by omega)) (by omega) W' hW
    rw [show txt.size - kn = 0 from by omega] at this
    exact this
   subst e
   rw [e2] at c2
   have HT2 : Hid (txt.size = cap) := e2
   clear hxs HT e2
   have HD : Hid ((w.drew.cell? ⟨f, 0, none⟩ = some (.pointer (some ⟨gR, 0, none⟩)) ∧ w.drew.cell? ⟨f, 2, none⟩ = some (.slice (some ⟨q, o, none⟩) cap cap) ∧ w.drew.cell? ⟨f, 3, none⟩ = some (.int .i64 cap))) := ⟨c0, c2, c3⟩
   clear CN h3 c0 c2 c3
   go_enter Tryz.func119, Tryz.ntmps119
   go_wp2_with fail
   go_region_held3 (fun w' => (w'.cell? ⟨f, 0, none⟩ = some (.pointer (some ⟨gR, 0, none⟩)) ∧ w'.cell? ⟨f, 2, none⟩ = some (.slice (some ⟨q, o, none⟩) cap cap) ∧ w'.cell? ⟨f, 3, none⟩ = some (.int .i64 cap)))
    (first | exact H3.out | exact HD.out)
    (first
     | (go_at_call 165
        refine (C1.out _ _ _ ((Below.refl _ _).drew)).mono ?_
        rintro e W3 ⟨⟨k, n, rfl, hN⟩, hb3⟩
        have HN : Hid (NextIs L (txt.extract cap txt.size) k n) := hN
        have B3 : Hid (Below w.heap.size w W3) := below_drew hb3
        have H3 : Hid ((W3.cell? ⟨f, 0, none⟩ = some (.pointer (some ⟨gR, 0, none⟩)) ∧ W3.cell? ⟨f, 2, none⟩ = some (.slice (some ⟨q, o, none⟩) cap cap) ∧ W3.cell? ⟨f, 3, none⟩ = some (.int .i64 cap))) := ⟨(B3.out.cell (p := ⟨f, 0, none⟩) hfl).trans HD.out.1, (B3.out.cell (p := ⟨f, 2, none⟩) hfl).trans HD.out.2.1, (B3.out.cell (p := ⟨f, 3, none⟩) hfl).trans HD.out.2.2⟩
        clear hN hb3))
   go_wp2_with fail
   go_ret2
   exact ⟨⟨k, n, rfl, HN.out⟩, B3.out⟩
  ·have C1 : Hid (∀ W', Below w.heap.size w W' → Calls Tryz.prog 165 #[.slice (some ⟨q, o + kn, none⟩) (txt.size - kn) (cap - kn), .pointer (some ⟨gR, 0, none⟩)] W' fun r w' => (∃ k n : Nat, r = .returned (.tuple #[.int .u8 k, .int .i64 n]) ∧ NextIs L (txt.extract kn txt.size) k n) ∧ Below W'.heap.size W' w') := CN _ _ (Or.inr ⟨q, o + kn, rfl, h3.part kn txt.size (Nat.le_refl _)⟩) (by omega)
   have HD : Hid ((w.drew.cell? ⟨f, 0, none⟩ = some (.pointer (some ⟨gR, 0, none⟩)) ∧ w.drew.cell? ⟨f, 2, none⟩ = some (.slice (some ⟨q, o, none⟩) txt.size cap) ∧ w.drew.cell? ⟨f, 3, none⟩ = some (.int .i64 kn))) := ⟨c0, c2, c3⟩
   clear CN h3 c0 c2 c3
   go_enter Tryz.func119, Tryz.ntmps119
   go_wp2_with fail
   go_region_held3 (fun w' => (w'.cell? ⟨f, 0, none⟩ = some (.pointer (some ⟨gR, 0, none⟩)) ∧ w'.cell? ⟨f, 2, none⟩ = some (.slice (some ⟨q, o, none⟩) txt.size cap) ∧ w'.cell? ⟨f, 3, none⟩ = some (.int .i64 kn)))
    (first | exact H3.out | exact HD.out)
    (first
     | (go_at_call 165
        refine (C1.out _ ((Below.refl _ _).drew)).mono ?_
        rintro e W3 ⟨⟨k, n, rfl, hN⟩, hb3⟩
        have HN : Hid (NextIs L (txt.extract kn txt.size) k n) := hN
        have B3 : Hid (Below w.heap.size w W3) := below_drew hb3
        have H3 : Hid ((W3.cell? ⟨f, 0, none⟩ = some (.pointer (some ⟨gR, 0, none⟩)) ∧ W3.cell? ⟨f, 2, none⟩ = some (.slice (some ⟨q, o, none⟩) txt.size cap) ∧ W3.cell? ⟨f, 3, none⟩ = some (.int .i64 kn))) := ⟨(B3.out.cell (p := ⟨f, 0, none⟩) hfl).trans HD.out.1, (B3.out.cell (p := ⟨f, 2, none⟩) hfl).trans HD.out.2.1, (B3.out.cell (p := ⟨f, 3, none⟩) hfl).trans HD.out.2.2⟩
        clear hN hb3))
   go_wp2_with fail
   go_ret2
   exact ⟨⟨k, n, rfl, HN.out⟩, B3.out⟩
def hdN (H : List Hd) (hd k : Nat) : Nat := ((H[hd]?).bind fun h => h.2[k]?).getD 0
def stH (H : List Hd) (hd : Nat) : Nat := ((H[hd]?).map fun h => h.1).getD 0
theorem sumA_move (f : AP → AP) (hf : ∀ a, (f a).1 = a.1) (A : List AP) : sumA (A.map f) = sumA A := by
 unfold sumA
 rw [List.map_map]
 congr 1
 exact List.map_congr_left fun a _ => hf a
theorem mvG_size (nx : Nat → Nat) (cut stl : Nat → Bool) (a : AP) : (mvG nx cut stl a).1 = a.1 := by
 unfold mvG stG
 split <;> rfl
theorem sumA_snoc (A : List AP) (a : AP) : sumA (A ++ [a]) = sumA A + a.1 := by unfold sumA; simp
def KeepN (w w' : World) : Prop := ∀ (k : Nat) (cs : Array Value) (t : TypeId) (m : Nat × Nat), t ≠ 330 → t ≠ 271 → t ≠ 215 → w.heap[k]? = some (.cells cs t m) → w'.heap[k]? = some (.cells cs t m)
def KeepU (w w' : World) : Prop := ∀ (k : Nat) (cs : Array Value) (m : Nat × Nat), w.heap[k]? = some (.cells cs 5 m) → w'.heap[k]? = some (.cells cs 5 m)
theorem KeepN.u {w w' : World} (h : KeepN w w') : KeepU w w' := fun k cs m hh => h k cs _ m (by decide) (by decide) (by decide) hh
theorem KeepN.row {w w' : World} (h : KeepN w w') {base n size : Nat} {e : TypeId} {v : Value} {us : List Value} (h1 : e ≠ 330) (h2 : e ≠ 271) (h3 : e ≠ 215) (hr : w.ownsRow base e size v n us) : w'.ownsRow base e size v n us := by
 obtain ⟨q1, q2⟩ := hr
 refine ⟨q1, ?_⟩
 rcases q2 with q2 | ⟨g, c', cur, hv, hg, hh, rr⟩
 ·exact Or.inl q2
 ·exact Or.inr ⟨g, c', cur, hv, hg, h _ _ _ _ h1 h2 h3 hh, rr⟩
theorem KeepU.row {w w' : World} (h : KeepU w w') {base n size : Nat} {v : Value} {us : List Value} (hr : w.ownsRow base 5 size v n us) : w'.ownsRow base 5 size v n us := by
 obtain ⟨q1, q2⟩ := hr
 refine ⟨q1, ?_⟩
 rcases q2 with q2 | ⟨g, c', cur, hv, hg, hh, rr⟩
 ·exact Or.inl q2
 ·exact Or.inr ⟨g, c', cur, hv, hg, h _ _ _ hh, rr⟩
theorem KeepU.trans {a b c : World} (h : KeepU a b) (k : KeepU b c) : KeepU a c := fun i cs m hh => k i cs m (h i cs m hh)
theorem KeepU.below {w w' : World} (h : Below w.heap.size w w') : KeepU w w' := fun k _ _ hh => (h.block k (heap_lt hh)).trans hh
set_option maxRecDepth 100000 in
set_option maxHeartbeats 1000000 in
theorem know_any (w0 w : World) (S : Nat → Prop) (f gR kn k size hd bg : Nat) (txt : ByteArray) (H : List Hd) (V : List Vw) (L : List (Int × Int × Nat)) (ks : List Nat) (A : List AP) (hE : FEnv w0 gR H V L ks) (hF : FOk w0 S w f gR H V txt kn A hd bg) (hk : k ∈ ks) (hk8 : k < 8) (hs : kn + size ≤ txt.size) :
  Calls Tryz.prog 120 #[.pointer (some ⟨f, 0, none⟩), .int .u8 k, .int .i64 size] w fun r w' => r = .returned (.tuple #[]) ∧ FOk w0 S w' f gR H V txt (kn + size) (A.map (mvA V k) ++ [stA V size (stH H (hdN H hd k))]) (hdN H hd k) bg ∧ Sav S w w' ∧ KeepN w w' ∧ w'.cell? ⟨f, 2, none⟩ = w.cell? ⟨f, 2, none⟩ := by
 obtain ⟨b, m1, m2, vT, hf, hT, ⟨ns, g, hW, hA, l4⟩, ⟨hlo, l1, l2, l3⟩, hB, ⟨h1, hh1⟩, hfit, hKp⟩ := hF
 obtain ⟨hd', h2, hn1, hh2, hs2⟩ := hE.hds k hk hd h1 hh1
 have ehd : hdN H hd k = hd' := by unfold hdN; rw [hh1]; simp [hn1]
 have est : stH H hd' = h2.1 := by unfold stH; rw [hh2]; rfl
 rw [ehd, est]
 have hbw := hB.size
 have CT := wtake_any w b gR 2 H V hd ns g bg m1 m2 k size hd' h1 h2 hW hk8 (hE.nxt k hk) hh1 hn1 hh2 hs2
 have c1 : w.cell? ⟨f, 1, none⟩ = some (.pointer (some ⟨b, 0, none⟩)) := cell_of_block hf 1 _ rfl
 obtain ⟨lab, hbb, _⟩ := hW.blk
 obtain ⟨D1, hD1⟩ := hW.gd
 obtain ⟨D2, hD2⟩ := hW.sp
 obtain ⟨e1, e2, hm1⟩ := hD1.blk
 obtain ⟨e3, e4, hm2⟩ := hD2.blk
 have KP : Hid (∀ W1, Chg (fun j => (∃ x ∈ ns, x.p = j) ∨ j = m1 ∨ j = m2 ∨ j = b) w W1 → ∀ (j : Nat) (cs : Array Value) (t : TypeId) (m : Nat × Nat), t ≠ 330 → t ≠ 271 → w.heap[j]? = some (.cells cs t m) → W1.heap[j]? = some (.cells cs t m)) := fun W1 hc j cs t m ht1 ht2 hh => by
  rw [hc.block j (heap_lt hh) ?_]
  ·exact hh
  ·rintro (⟨x, hx, e⟩ | e | e | e)
   ·obtain ⟨i, hi⟩ := List.mem_iff_getElem?.1 hx
    have h3 := hW.seq i x hi
    rw [e, hh] at h3
    injection h3 with h3
    injection h3 with _ h4
    exact ht1 h4
   ·rw [e, hm1] at hh; cases hh
   ·rw [e, hm2] at hh; cases hh
   ·rw [e, hbb] at hh
    injection hh with hh
    injection hh with _ h4
    exact ht2 h4.symm
 have HF : Hid (w.heap[f]? = some (.cells (FloC gR b vT kn) 215 (0, 0))) := hf
 have HT : Hid (TxtIn w S vT txt) := hT
 have HA : Hid (Abs ns g A) := hA
 have HL : Hid (¬ S b ∧ ¬ S m1 ∧ ¬ S m2 ∧ ∀ x ∈ ns, ¬ S x.p) := ⟨l1, l2, l3, l4⟩
 have HB : Hid (Below w0.heap.size w0 w) := hB
 have HK : Hid (Kept S w0 w ∧ ¬ S f) := ⟨hKp, hlo⟩
 have HD : Hid (H[hd']? = some h2) := hh2
 have hkb : kn + size ≤ 1500000 := Nat.le_trans hs hfit.2
 have htx := hfit.2
 clear hKp hlo hE hf hT hW hA l1 l2 l3 l4 hB hh1 hfit hn1 hh2 hs2 ehd est hbb hD1 hD2 hm1 hm2
 go_enter Tryz.func120, Tryz.ntmps120
 go_wp2_with fail
 refine CT.mono ?_
 rintro r W1 ⟨rfl, ns', g', hW', hA', hlow', hc'⟩
 have hf1 := KP.out W1 hc' f _ _ _ (by decide) (by decide) HF.out
 have d3 : W1.cell? ⟨f, 3, none⟩ = some (.int .i64 kn) := cell_of_block hf1 3 _ rfl
 have fr1 := free_of_block hf1
 have B1 : Hid (Sav S w W1) := hc'.mono (fun j _ h => by
  rcases h with ⟨x, hx, rfl⟩ | rfl | rfl | rfl
  ·exact HL.out.2.2.2 x hx
  ·exact HL.out.2.1
  ·exact HL.out.2.2.1
  ·exact HL.out.1)
 have fin : FOk w0 S (W1.setCell ⟨f, 3, none⟩ (.int .i64 (kn + size : Nat))) f gR H V txt (kn + size) (A.map (mvA V k) ++ [stA V size h2.1]) hd' bg := by
  have oth : ∀ j, j ≠ f → (W1.setCell ⟨f, 3, none⟩ (.int .i64 (kn + size : Nat))).heap[j]? = W1.heap[j]? := fun j hj => Below.heap_setCell _ _ _ _ hj
  obtain ⟨la2, hb2, hla2⟩ := hW'.blk
  obtain ⟨E1, hE1⟩ := hW'.gd
  obtain ⟨E2, hE2⟩ := hW'.sp
  obtain ⟨i1, i2, hn1⟩ := hE1.blk
  obtain ⟨i3, i4, hn2⟩ := hE2.blk
  refine ⟨b, m2, m1, vT, (block_setCell hf1 3 _).trans rfl, ?_, ⟨ns', g', ⟨⟨la2, ?_, hla2⟩, fun i x hx => ?_, hW'.gr, ⟨E1, hE1.keep (oth _ (fun e => by rw [e, hf1] at hn1; cases hn1))⟩, ⟨E2, hE2.keep (oth _ (fun e => by rw [e, hf1] at hn2; cases hn2))⟩, hW'.ne, ?_, hW'.op⟩, hA' A HA.out, hlow' _ HK.out.1.hi HL.out.2.2.2⟩, ⟨HK.out.2, HL.out.1, HL.out.2.2.1, HL.out.2.1⟩, ?_, ⟨h2, HD.out⟩, ⟨hs, htx⟩, HK.out.1.grow (B1.out.setCell (q := ⟨f, 3, none⟩) (Or.inr HK.out.2) _).size⟩
  ·refine HT.out.keep fun j cs m hh => ?_
   have h3 := KP.out W1 hc' j cs _ m (by decide) (by decide) hh
   rw [oth j (fun e => by rw [e, hf1] at h3; injection h3 with h3; injection h3 with _ h4; cases h4)]
   exact h3
  ·rw [oth b (fun e => by rw [e, hf1] at hb2; injection hb2 with h3; injection h3 with _ h4; cases h4)]
   exact hb2
  ·have h3 := hW'.seq i x hx
   rw [oth x.p (fun e => by rw [e, hf1] at h3; injection h3 with h3; injection h3 with _ h4; cases h4)]
   exact h3
  ·refine hW'.lk.only fun j cs t ht hh => ?_
   rw [oth j (fun e => by rw [e, hf1] at hh; injection hh with h3; injection h3 with _ h4; rcases ht with rfl | rfl | rfl <;> cases h4)]
   exact hh
  ·exact HB.out.trans (HK.out.1.below (B1.out.setCell (q := ⟨f, 3, none⟩) (Or.inr HK.out.2) _) hbw)
 have FIN : Hid (FOk w0 S (W1.setCell ⟨f, 3, none⟩ (.int .i64 (kn + size : Nat))) f gR H V txt (kn + size) (A.map (mvA V k) ++ [stA V size h2.1]) hd' bg) := fin
 have B2 : Hid (Sav S w (W1.setCell ⟨f, 3, none⟩ (.int .i64 (kn + size : Nat)))) := B1.out.setCell (q := ⟨f, 3, none⟩) (Or.inr HK.out.2) _
 have U2 : Hid (KeepN w (W1.setCell ⟨f, 3, none⟩ (.int .i64 (kn + size : Nat)))) := fun j cs t m ht1 ht2 ht3 hh => by
  have h3 := KP.out W1 hc' j cs t m ht1 ht2 hh
  rw [Below.heap_setCell _ _ _ _ (show j ≠ f from fun e => by rw [e, hf1] at h3; injection h3 with h3; injection h3 with _ h4; exact ht3 h4.symm)]
  exact h3
 have V2 : Hid ((W1.setCell ⟨f, 3, none⟩ (.int .i64 (kn + size : Nat))).cell? ⟨f, 2, none⟩ = w.cell? ⟨f, 2, none⟩) := by
  show _ = _
  rw [cell_of_block ((block_setCell hf1 3 _).trans rfl) 2 vT rfl, cell_of_block HF.out 2 vT rfl]
 clear fin hW' hA' hlow' hc' hf1 CT
 go_wp2_with fail
 go_end0
 rw [show ((kn : Int) + (size : Int)) = ((kn + size : Nat) : Int) from by omega]
 exact ⟨rfl, FIN.out, B2.out, U2.out, V2.out⟩
abbrev TS := List AP × Nat × ByteArray × List ByteArray
def tellP : Nat → List AP → Nat → ByteArray → List ByteArray → TS
 | 0, A, bg, t, l => (A, bg, t, l)
 | n + 1, A, bg, t, l => if (nextT A bg).2.2 = 0 then ((nextT A bg).1, (nextT A bg).2.1, t, l) else tellP n (nextT A bg).1 (nextT A bg).2.1 (t.extract (nextT A bg).2.2 t.size) (l ++ [t.extract 0 (nextT A bg).2.2])
def tellC (n : Nat) (A : List AP) (bg : Nat) (t : ByteArray) (l : List ByteArray) (sz : Nat) : TS := if sz = 0 then (A, bg, t, l) else tellP n A bg (t.extract sz t.size) (l ++ [t.extract 0 sz])
theorem tellP_succ (n : Nat) (A : List AP) (bg : Nat) (t : ByteArray) (l : List ByteArray) : tellP (n + 1) A bg t l = tellC n (nextT A bg).1 (nextT A bg).2.1 t l (nextT A bg).2.2 := rfl
theorem nextT_sum : ∀ (A : List AP) (bg : Nat), sumA (nextT A bg).1 + (nextT A bg).2.1 + (nextT A bg).2.2 = sumA A + bg := by
 intro A
 induction A with
 | nil => intro bg; rfl
 | cons a A ih =>
  intro bg
  obtain ⟨sz, s⟩ := a
  have e : sumA ((sz, s) :: A) = sz + sumA A := by unfold sumA; simp
  cases s with
  | inl v => show sumA ((sz, .inl v) :: A) + bg + 0 = _; omega
  | inr c =>
   cases c with
   | true => show sumA A + 0 + (bg + sz) = _; rw [e]; omega
   | false =>
    have := ih (bg + sz)
    show sumA (nextT A (bg + sz)).1 + (nextT A (bg + sz)).2.1 + (nextT A (bg + sz)).2.2 = _
    rw [this, e]
    omega
theorem nextT_len : ∀ (A : List AP) (bg : Nat), (nextT A bg).1.length ≤ A.length ∧ (0 < (nextT A bg).2.2 → (nextT A bg).1.length < A.length) := by
 intro A
 induction A with
 | nil => intro bg; exact ⟨Nat.le_refl _, fun h => absurd h (Nat.lt_irrefl _)⟩
 | cons a A ih =>
  intro bg
  obtain ⟨sz, s⟩ := a
  cases s with
  | inl v => exact ⟨Nat.le_refl _, fun h => absurd h (Nat.lt_irrefl _)⟩
  | inr c =>
   cases c with
   | true => exact ⟨Nat.le_succ _, fun _ => Nat.lt_succ_self _⟩
   | false =>
    have := ih (bg + sz)
    exact ⟨Nat.le_trans this.1 (Nat.le_succ _), fun h => Nat.lt_succ_of_le this.1⟩
theorem fwnext (w0 w : World) (S : Nat → Prop) (f gR b m1 m2 : Nat) (vT : Value) (H : List Hd) (V : List Vw) (txt : ByteArray) (kn : Nat) (A : List AP) (hd bg : Nat) (h : FP w0 S w f gR b m1 m2 vT H V txt kn A hd bg) (hsum : sumA A + bg ≤ 4000000) :
  Calls Tryz.prog 167 #[.pointer (some ⟨b, 0, none⟩)] w fun r w' => r = .returned (.int .i64 (nextT A bg).2.2) ∧ FP w0 S w' f gR b m1 m2 vT H V txt kn (nextT A bg).1 hd (nextT A bg).2.1 ∧ Chg (fun k => k = b) w w' := by
 obtain ⟨ns, g, hW, hA, hl⟩ := h.hw
 refine (wnext_any w b gR 2 H V hd ns g bg m1 m2 A hW hA hsum).mono ?_
 rintro r w' ⟨rfl, ⟨ns', hW', hA', hs'⟩, hc⟩
 obtain ⟨la, hb, _⟩ := hW.blk
 have oth : ∀ (k : Nat) (cs : Array Value) (t : TypeId) (m : Nat × Nat), t ≠ 271 → w.heap[k]? = some (.cells cs t m) → w'.heap[k]? = some (.cells cs t m) := fun k cs t m ht hh => by
  rw [hc.block k (heap_lt hh) (fun e => by rw [e, hb] at hh; injection hh with hh; injection hh with _ h2; exact ht h2.symm)]
  exact hh
 exact ⟨rfl, ⟨oth _ _ _ _ (by decide) h.hf, h.ht.keep fun k cs m hh => oth k cs _ m (by decide) hh, ⟨ns', g, hW', hA', fun x hx => hl x (hs' x hx)⟩, h.lo, h.bel.trans (hc.low h.bel.size fun k e => by rw [e]; exact h.kept.le h.lo.2.1), h.hdl, h.fits, h.kept.grow hc.size⟩, hc⟩
theorem TxtIn.drop {w : World} {S : Nat → Prop} {q o cap sz : Nat} {t : ByteArray} (h : ByAt w q o t) (hb : ¬ S q) (hty : ∃ cs m, w.heap[q]? = some (.cells cs 5 m)) (hc : t.size ≤ cap) (hs : sz ≤ t.size) : TxtIn w S (.slice (if cap = sz then some ⟨q, o, none⟩ else some ⟨q, o + sz, none⟩) (t.size - sz) (cap - sz)) (t.extract sz t.size) := by
 have hz : (t.extract sz t.size).size = t.size - sz := by rw [ByteArray.size_extract]; omega
 by_cases e : cap = sz
 ·left
  refine ⟨by omega, if cap = sz then some ⟨q, o, none⟩ else some ⟨q, o + sz, none⟩, cap - sz, ?_⟩
  rw [show t.size - sz = 0 from by omega]
 ·right
  exact ⟨q, o + sz, cap - sz, by rw [if_neg e, hz], hb, h.part sz t.size (Nat.le_refl _), by omega, hty⟩
end Go.Proofs.YtodagkkjfipbgaaGreatDoor
