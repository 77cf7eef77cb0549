/- sources: the walk. -/
import Derived.Test.YtodagkkjfipbgaaGreatDoorN13toN14
import Derived.Test.YtodagkkjfipbgaaGreatDoorN12lone
import Derived.Test.YtodagkkjfipbgaaGreatDoorN10toN11
import Derived.Test.YtodagkkjfipbgaaGreatDoorN9lone
import Derived.Test.YtodagkkjfipbgaaGreatDoorN1toN5
import Derived.Test.YtodagkkjfipbgaaGreatDoorJ10toJ11
import Derived.Test.YtodagkkjfipbgaaGreatDoorK9toJ9
import Derived.Test.YtodagkkjfipbgaaGreatDoorJ8toQ4
import Derived.Test.YtodagkkjfipbgaaGreatDoorJ6toK3
import Derived.Test.YtodagkkjfipbgaaGreatDoorK7toL3
import Derived.Test.YtodagkkjfipbgaaGreatDoorP2toQ1
import Derived.Test.YtodagkkjfipbgaaGreatDoorBtoP1
import Derived.Test.YtodagkkjfipbgaaGreatDoorK4toK6
import Derived.Test.YtodagkkjfipbgaaGreatDoorQ5toK2
import Derived.Test.YtodagkkjfipbgaaGreatDoorQ2toQ3
import Derived.Test.YtodagkkjfipbgaaGreatDoorJ3toJ5
import Derived.Test.YtodagkkjfipbgaaGreatDoorJ2toJ7
import Derived.Test.YtodagkkjfipbgaaGreatDoorN8lone
import Derived.Test.YtodagkkjfipbgaaGreatDoorN6toN0
namespace Go.Proofs.YtodagkkjfipbgaaGreatDoor
open Go.RowKit Go.Maps

theorem one_new (w : World) (x : Nat) : ∀ (j : Nat) (u : Value), [Value.int .i64 (x : Nat)][j]? = some u → (w.alloc (.cells #[.int .i64 (x : Nat)] 3)).drew.cell? ⟨w.heap.size, j, none⟩ = some u := fun j u hu => cell_of_block (w := (w.alloc _).drew) (heap_alloc_new w _) j u (by simpa using hu)
theorem one_i64 (x : Nat) : ∀ u ∈ [Value.int .i64 (x : Nat)], u.oneCell' = true := by
  intro u hu; simp at hu; subst hu; rfl
/-- The cells of a view. -/
theorem view_cells {w : World} {base i cap : Nat} {ao : Option Addr} {V : List Vw} (h : w.ownsRow base 254 10 (.slice ao V.length cap) V.length (viewCells V)) (hV : ∀ v ∈ V, v.2.2.length = 8) {v : Vw} (hx : V[i]? = some v) : ∃ g, ao = some ⟨g, 0, none⟩ ∧ g < w.heap.size ∧ ∀ o u, (viewCell v)[o]? = some u → w.cell? ⟨g, i * 10 + o, none⟩ = some u := by
  have hlt := (List.getElem?_eq_some_iff.1 hx).1
  have hl8 := hV v (List.mem_of_getElem? hx)
  have hat := viewCells_at V i _ hV hx
  have hlen : (viewCell v).length = 10 := by unfold viewCell; simp [hl8]
  obtain ⟨g, hg, _, e0⟩ := row_at h (hat 0 _ rfl) (by omega)
  refine ⟨g, hg, cellLt e0, fun o u hu => ?_⟩
  have ho := (List.getElem?_eq_some_iff.1 hu).1
  obtain ⟨g1, hg1, _, e1⟩ := row_at h (hat o u hu) (by omega)
  rw [hg] at hg1
  simp at hg1
  subst hg1
  exact e1

set_option maxRecDepth 100000 in
set_option maxHeartbeats 4000000 in
theorem sources_any (base o : Nat) (ks : List Nat) (vP vH : Value) (V : List Vw) (aoV : Option Addr) (capV : Nat) (w : World) (hks : ∀ k ∈ ks, k < 8) (hkl : ks.length ≤ 8) (hP : w.ownsRow 0 169 1 vP ks.length (kCells ks)) (hW : w.ownsRow base 254 10 (.slice aoV V.length capV) V.length (viewCells V)) (hV : VGood ks V) (hVl : V.length ≤ 320000)
    (hO : w.heap[o]? = some (.cells #[vP, vH, .slice aoV V.length capV] 95 (0, 0))) :
    Calls Tryz.prog 145 #[.pointer (some ⟨o, 0, none⟩)] w fun r w' => ∃ v src rv, r = .returned v ∧ SRw w' w.heap.size v src rv ∧ SrcOk ks (plainV V) src ∧ (∀ l ∈ src, l.length ≤ 2560000) ∧ Below w.heap.size w w' := by
  obtain ⟨aoP, capP, rfl⟩ := row_shape hP
  have HP : Hid (w.ownsRow 0 169 1 (.slice aoP ks.length capP) ks.length (kCells ks)) := hP
  have HWV : Hid (w.ownsRow base 254 10 (.slice aoV V.length capV) V.length (viewCells V)) := hW
  have HV : Hid (VGood ks V) := hV
  have HKS : Hid (∀ k ∈ ks, k < 8) := hks
  have HO : Hid (w.heap[o]? = some (.cells #[.slice aoP ks.length capP, vH, .slice aoV V.length capV] 95 (0, 0))) := hO
  have hol := heap_lt hO
  have c0 : w.cell? ⟨o, 0, none⟩ = some (.slice aoP ks.length capP) := cell_of_block hO 0 _ rfl
  have c2 : w.cell? ⟨o, 2, none⟩ = some (.slice aoV V.length capV) := cell_of_block hO 2 _ rfl
  have hmk := fun W => make_src W V.length hVl
  have G0 : Hid (SRw (w.alloc (.cells (madeCells #[.slice none 0 0] V.length) 33)) w.heap.size (.slice (some ⟨w.heap.size, 0, none⟩) V.length V.length) (List.replicate V.length []) (List.replicate V.length (.slice none 0 0))) := src_made w V.length hVl
  have B0 : Hid (Below w.heap.size w (w.alloc (.cells (madeCells #[.slice none 0 0] V.length) 33))) := below_alloc w _
  have c2' := fun ob => ((below_alloc w ob).cell (p := ⟨o, 2, none⟩) hol).trans c2
  have hpl : (plainV V).length = V.length := by unfold plainV; simp
  have S0 : Hid (SrcAt ks (plainV V) 0 0 (List.replicate V.length [])) := by have := SrcAt.start ks (plainV V); rw [hpl] at this; exact this
  have HPL : Hid ((plainV V).length = V.length) := hpl
  clear hP hW hV hks hO hpl
  go_enter Tryz.func145, Tryz.ntmps145
  go_wp2_with fail
  go_loopg [19] V.length (fun gh iv wx => ∃ (i : Nat) (src : List (List Nat)) (rv : List Value), i ≤ V.length ∧ gh = V.length - i ∧ iv = .int .i64 i ∧ Hid (SRw wx w.heap.size (.slice (some ⟨w.heap.size, 0, none⟩) V.length V.length) src rv) ∧ Hid (SrcAt ks (plainV V) i 0 src) ∧ Hid (Below w.heap.size w wx))
  case atStart => exact ⟨0, _, _, Nat.zero_le _, rfl, rfl, G0, S0, B0⟩
  case round =>
    obtain ⟨i, src, rv, hi, rfl, rfl, hG, hS, hB⟩ := hrel
    obtain ⟨w1, hw1⟩ : ∃ w1, w1 = wr := ⟨wr, rfl⟩
    subst hw1
    clear G0 B0 S0 c2'
    have hs1 := hB.out.size
    by_cases hlt : i < V.length
    · obtain ⟨v, hv⟩ : ∃ v, V[i]? = some v := ⟨V[i], List.getElem?_eq_getElem hlt⟩
      have hvm := HV.out v (List.mem_of_getElem? hv)
      obtain ⟨gV, hgV, hgl, hvc⟩ := view_cells HWV.out (fun v h => (HV.out v h).1) hv
      subst hgV
      have HPV : Hid ((plainV V)[i]? = some (v.1, v.2.2)) := by show _ = _; unfold plainV; rw [List.getElem?_map, hv]; rfl
      have HVM : Hid (∀ k ∈ ks, ∃ n, v.2.2[k]? = some n ∧ n < V.length) := hvm.2
      obtain ⟨vc, vt, vl⟩ := v
      obtain ⟨n0, n1, n2, n3, n4, n5, n6, n7, en⟩ := eight hvm.1
      simp only at en
      subst en
      have d0 := (hB.out.cell (p := ⟨gV, i * 10, none⟩) hgl).trans (hvc 0 _ rfl)
      have d1 := (hB.out.cell (p := ⟨gV, i * 10 + 1, none⟩) hgl).trans (hvc 1 _ rfl)
      have d2 := (hB.out.cell (p := ⟨gV, i * 10 + 2, none⟩) hgl).trans (hvc 2 _ rfl)
      have d3 := (hB.out.cell (p := ⟨gV, i * 10 + 3, none⟩) hgl).trans (hvc 3 _ rfl)
      have d4 := (hB.out.cell (p := ⟨gV, i * 10 + 4, none⟩) hgl).trans (hvc 4 _ rfl)
      have d5 := (hB.out.cell (p := ⟨gV, i * 10 + 5, none⟩) hgl).trans (hvc 5 _ rfl)
      have d6 := (hB.out.cell (p := ⟨gV, i * 10 + 6, none⟩) hgl).trans (hvc 6 _ rfl)
      have d7 := (hB.out.cell (p := ⟨gV, i * 10 + 7, none⟩) hgl).trans (hvc 7 _ rfl)
      have d8 := (hB.out.cell (p := ⟨gV, i * 10 + 8, none⟩) hgl).trans (hvc 8 _ rfl)
      have d9 := (hB.out.cell (p := ⟨gV, i * 10 + 9, none⟩) hgl).trans (hvc 9 _ rfl)
      have a0 := (hB.out.cell (p := ⟨o, 0, none⟩) hol).trans c0
      have a0' := fun ob => ((below_alloc w1 ob).cell (p := ⟨o, 0, none⟩) (by show o < _; omega)).trans a0
      have G1 : Hid (SRw (w1.alloc (.cells (viewCell (vc, vt, [n0, n1, n2, n3, n4, n5, n6, n7])).toArray 254)) w.heap.size (.slice (some ⟨w.heap.size, 0, none⟩) V.length V.length) src rv) := hG.out.kpa (KpA.below (below_alloc _ _))
      have Q1 : Hid ((w1.alloc (.cells (viewCell (vc, vt, [n0, n1, n2, n3, n4, n5, n6, n7])).toArray 254)).heap[w1.heap.size]? = some (.cells (viewCell (vc, vt, [n0, n1, n2, n3, n4, n5, n6, n7])).toArray 254 (0, 0))) := heap_alloc_new w1 _
      have B1 : Hid (Below w.heap.size w (w1.alloc (.cells (viewCell (vc, vt, [n0, n1, n2, n3, n4, n5, n6, n7])).toArray 254))) := hB.out.alloc hs1 _
      clear hvc hvm hv
      go_wp2_with fail
      go_loopg [29] ks.length (fun gh jv wx => ∃ (j : Nat) (src : List (List Nat)) (rv : List Value), j ≤ ks.length ∧ gh = ks.length - j ∧ jv = .int .i64 j ∧ Hid (SRw wx w.heap.size (.slice (some ⟨w.heap.size, 0, none⟩) V.length V.length) src rv) ∧ Hid (SrcAt ks (plainV V) i j src) ∧ Hid (wx.heap[w1.heap.size]? = some (.cells (viewCell (vc, vt, [n0, n1, n2, n3, n4, n5, n6, n7])).toArray 254 (0, 0))) ∧ Hid (Below w.heap.size w wx))
      case atStart => exact ⟨0, src, rv, Nat.zero_le _, rfl, rfl, G1, hS, Q1, B1⟩
      case round =>
        obtain ⟨j, src2, rv2, hj, rfl, rfl, hG2, hS2, hQ2, hB2⟩ := hrel
        obtain ⟨w2, hw2⟩ : ∃ w2, w2 = wr := ⟨wr, rfl⟩
        subst hw2
        clear G1 Q1 B1 d0 d1 d2 d3 d4 d5 d6 d7 d8 d9 a0 a0'
        have hs2 := hB2.out.size
        by_cases hjl : j < ks.length
        · obtain ⟨k, hk⟩ : ∃ k, ks[j]? = some k := ⟨ks[j], List.getElem?_eq_getElem hjl⟩
          have hkm := List.mem_of_getElem? hk
          have hk8 : k < 8 := HKS.out k hkm
          have hk8' : (k : Int) < 8 := by omega
          obtain ⟨gP, hgP, _, kc⟩ := row_at HP.out (kCells_at hk) (by omega)
          subst hgP
          have kc' := (hB2.out.cell (p := ⟨gP, j, none⟩) (cellLt kc)).trans kc
          obtain ⟨n, hn, hnV⟩ := HVM.out k hkm
          have HST : Hid (SrcAt ks (plainV V) i (j + 1) (addI src2 n i)) := hS2.out.step hk (by rw [HPV.out]; exact hn)
          have q0 := cell_of_block hQ2.out (2 + k) _ ((List.getElem?_toArray ..).trans (viewCell_at (v := (vc, vt, [n0, n1, n2, n3, n4, n5, n6, n7])) hn))
          have hsl : src2.length = V.length := hS2.out.1.trans HPL.out
          have hnV' : (n : Int) < (V.length : Int) := by omega
          obtain ⟨aor, cr, hrv, hcr, hrow, cur, hcur⟩ := hG2.out.cell (i := n) hsl hnV
          have hll : src2[n]? = some (src2[n]'(by omega)) := List.getElem?_eq_getElem _
          have hle : (src2[n]'(by omega)).length ≤ 2560009 := by have := hS2.out.2.1 _ (List.getElem_mem (by omega : n < src2.length)); omega
          generalize src2[n]'(by omega) = l at hrv hcr hrow hll hle
          have HRV : Hid (rv2[n]? = some (.slice aor l.length cr)) := hrv
          have HRW : Hid (w2.ownsRow w.heap.size 3 1 (.slice aor l.length cr) l.length (intCells l)) := hrow
          have HLL : Hid (src2[n]? = some l) := hll
          have HCU : Hid (w2.heap[w.heap.size]? = some (.cells cur 33 (0, 0))) := hcur
          clear hrv hrow hll hcur kc hn hk hkm
          have RA : Hid ((w2.alloc (.cells #[.int .i64 (i : Nat)] 3)).drew.ownsRow w.heap.size 3 1 (.slice aor l.length cr) l.length (intCells l)) := row_kp HRW.out (Kp.alloc (Kp.refl _ w2) _)
          have LA : w.heap.size ≤ (w2.alloc (.cells #[.int .i64 (i : Nat)] 3)).drew.heap.size := by show _ ≤ (w2.alloc _).heap.size; simp; omega
          have hcr' := fun o => ((below_alloc w2 o).cell (p := ⟨w.heap.size, n, none⟩) (heap_lt HCU.out)).trans hcr
          have q0' := fun o => ((below_alloc w2 o).cell (p := ⟨w1.heap.size, 2 + k, none⟩) (heap_lt hQ2.out)).trans q0
          go_wp2_with fail
          go_region_law
            (first
              | (refine step_push2 rfl (.tmp 44) (.tmp 46) 33 rfl w.heap.size 3 (.int .i64 0) 1 8 Tryz.infoI Tryz.undRowI rfl (by decide) (.slice aor l.length cr) l.length (intCells l) (by simp [Act.eval]) RA.out w2.heap.size 1 [.int .i64 (i : Nat)] (by simp [Act.eval]) rfl (one_new w2 i) (one_i64 i) (by omega) (by omega) LA ?_
                 intro v' w3 hown hgr hsn
                 obtain ⟨ao3, c3, rfl⟩ := row_shape hown
                 have HG3 : Hid (w3.heap[w.heap.size]? = some (.cells cur 33 (0, 0))) := ((Kp.alloc (Kp.refl _ w2) _).grown (w := (w2.alloc _).drew) RA.out hgr (by decide)) _ _ _ HCU.out
                 have HF : Hid (SRw (w3.setCell ⟨w.heap.size, n, none⟩ (.slice ao3 (l.length + 1) c3)) w.heap.size (.slice (some ⟨w.heap.size, 0, none⟩) V.length V.length) (addI src2 n i) (rv2.set n (.slice ao3 (l.length + 1) c3))) := addI_fin hG2.out hsl hnV HLL.out HRV.out HRW.out hgr hown hsn HG3.out
                 have HQ3 : Hid (w3.heap[w1.heap.size]? = some (.cells (viewCell (vc, vt, [n0, n1, n2, n3, n4, n5, n6, n7])).toArray 254 (0, 0))) := ((Kp.alloc (Kp.refl _ w2) _).grown (w := (w2.alloc _).drew) RA.out hgr (by decide)) _ _ _ hQ2.out
                 have HB3 : Hid (Below w.heap.size w w3) := Below.grown (w := (w2.alloc _).drew) ((hB2.out.alloc hs2 _).drew) hgr LA (fun k hk => (RA.out.lt k hk).1)
                 have g3 := (World.cell?_of_block (a := ⟨w.heap.size, n, none⟩) (w := w2) (HG3.out.trans HCU.out.symm)).trans hcr
                 have p3 := (World.cell?_of_block (a := ⟨w1.heap.size, 2 + k, none⟩) (w := w2) (HQ3.out.trans hQ2.out.symm)).trans q0
                 have f3 := free_of_block HG3.out
                 clear hown hgr hsn))
          all_goals go_wp2_with fail
          all_goals go_roundg (ks.length - (j + 1))
          all_goals first
            | (case measure => omega)
            | exact ⟨j + 1, addI src2 n i, rv2.set n (.slice ao3 (l.length + 1) c3), by omega, rfl, by go_num, HF, HST, (Below.heap_setCell _ _ _ _ (type_ne HQ3.out HG3.out (by decide))).trans HQ3.out, HB3.out.setCell (Nat.le_refl _) _⟩
        · obtain rfl : j = ks.length := by omega
          go_wp2_with fail
          go_roundg (V.length - (i + 1))
          case measure => omega
          case rel => exact ⟨i + 1, src2, rv2, by omega, rfl, by go_num, hG2, hS2.out.next hkl, hB2⟩
    · go_wp2_with fail
      go_ret
      exact ⟨_, src, rv, rfl, hG.out, hS.out.done (by rw [HPL.out]; omega), fun l hl => by have := hS.out.2.1 l hl; omega, hB.out⟩
end Go.Proofs.YtodagkkjfipbgaaGreatDoor
/- mark. -/
namespace Go.Proofs.YtodagkkjfipbgaaGreatDoor
open Go.RowKit Go.Maps

theorem Tryz.infoB : (Tryz.prog.info? 4).map (fun i => (i.zero, i.size, i.bytes)) = some (some (.bool false), 1, 1) := by kernel_rfl
theorem Tryz.undRowB : Tryz.prog.underlying 108 = some (.slice 4) := by kernel_rfl
def boolCells (M : List Bool) : Array Value := (M.map Value.bool).toArray
theorem boolCells_at {M : List Bool} {i : Nat} {b : Bool} (h : M[i]? = some b) : (boolCells M)[i]? = some (.bool b) := by
  unfold boolCells
  rw [List.getElem?_toArray, List.getElem?_map, h]
  rfl
theorem boolCells_set (M : List Bool) (i : Nat) (b : Bool) : (boolCells M).setIfInBounds i (.bool b) = boolCells (M.set i b) := by
  unfold boolCells
  rw [List.setIfInBounds_toArray, List.map_set]
theorem intCells_snoc (l : List Nat) (x : Nat) : intCells (l ++ [x]) = intCells l ++ [.int .i64 (x : Nat)] := by unfold intCells; simp
/-- What mayEnd holds from block N on. -/
structure MSt (N : Nat) (w : World) (M : List Bool) (W : List Nat) (aoW : Option Addr) (capW : Nat) : Prop where
  mr : w.heap[N]? = some (.cells (boolCells M) 4 (0, 0))
  mv : w.heap[N + 1]? = some (.cells #[.slice (some ⟨N, 0, none⟩) M.length M.length] 108 (0, 0))
  wv : w.heap[N + 2]? = some (.cells #[.slice aoW W.length capW] 33 (0, 0))
  wr : w.ownsRow (N + 3) 3 1 (.slice aoW W.length capW) W.length (intCells W)
theorem MSt.below {N capW : Nat} {w w' : World} {M : List Bool} {W : List Nat} {aoW : Option Addr} (h : MSt N w M W aoW capW) (hb : Below w.heap.size w w') : MSt N w' M W aoW capW :=
  ⟨(hb.block _ (heap_lt h.mr)).trans h.mr, (hb.block _ (heap_lt h.mv)).trans h.mv, (hb.block _ (heap_lt h.wv)).trans h.wv, row_kp h.wr (Kp.below hb)⟩

set_option maxRecDepth 100000 in
set_option maxHeartbeats 2000000 in
theorem mark_any (N : Nat) (w : World) (M : List Bool) (W : List Nat) (aoW : Option Addr) (capW i : Nat) (h : MSt N w M W aoW capW) (hi : i < M.length) (hW : W.length ≤ 1000000) :
    Calls Tryz.prog 186 #[.int .i64 i, .pointer (some ⟨N + 1, 0, none⟩), .pointer (some ⟨N + 2, 0, none⟩)] w fun r w' => r = .returned (.tuple #[]) ∧ (∃ ao cap, MSt N w' (markM M W i).1 (markM M W i).2 ao cap) ∧ Below N w w' := by
  obtain ⟨b, hb⟩ : ∃ b, M[i]? = some b := ⟨M[i], List.getElem?_eq_getElem hi⟩
  have HS : Hid (MSt N w M W aoW capW) := h
  have m0 : w.cell? ⟨N + 1, 0, none⟩ = some (.slice (some ⟨N, 0, none⟩) M.length M.length) := cell_of_block h.mv 0 _ rfl
  have m1 : w.cell? ⟨N, i, none⟩ = some (.bool b) := cell_of_block h.mr i _ (boolCells_at hb)
  have mf := free_of_block h.mr
  have hz := heap_lt h.wv
  cases b
  · have HM : Hid (markM M W i = (M.set i true, W ++ [i])) := by show _ = _; unfold markM; rw [if_pos hb]
    have w0 : w.cell? ⟨N + 2, 0, none⟩ = some (.slice aoW W.length capW) := cell_of_block h.wv 0 _ rfl
    obtain ⟨V, hV⟩ : ∃ V, V = w.setCell ⟨N, i, none⟩ (.bool true) := ⟨_, rfl⟩
    have HV : Hid (V = w.setCell ⟨N, i, none⟩ (.bool true)) := hV
    have V1 : Hid (MSt N V (M.set i true) W aoW capW) := by
      rw [hV]
      refine ⟨(block_setCell h.mr i _).trans (by rw [boolCells_set]), ?_, ?_, row_kp h.wr ((Kp.refl _ _).setCell h.mr (by decide) _)⟩
      · rw [List.length_set]; exact (setCell_type (by omega)).trans h.mv
      · exact (setCell_type (by omega)).trans h.wv
    have BV : Hid (Below N w V) := by rw [hV]; exact (Below.refl N w).setCell (Nat.le_refl N) _
    have hVz : V.heap.size = w.heap.size := by rw [hV]; simp
    have v0 : V.cell? ⟨N + 2, 0, none⟩ = some (.slice aoW W.length capW) := cell_of_block V1.out.wv 0 _ rfl
    have v0' := fun ob => ((below_alloc V ob).cell (p := ⟨N + 2, 0, none⟩) (by show N + 2 < _; omega)).trans v0
    have R1 : Hid ((V.alloc (.cells #[.int .i64 (i : Nat)] 3)).ownsRow (N + 3) 3 1 (.slice aoW W.length capW) W.length (intCells W)) := row_kp V1.out.wr (Kp.below (below_alloc V _))
    have NW : Hid (∀ (j : Nat) (u : Value), [Value.int .i64 (i : Nat)][j]? = some u → (V.alloc (.cells #[.int .i64 (i : Nat)] 3)).cell? ⟨w.heap.size, j, none⟩ = some u) := fun j u hu => by rw [← hVz]; exact cell_of_block (heap_alloc_new V _) j u (by simpa using hu)
    have WV : Hid ((V.alloc (.cells #[.int .i64 (i : Nat)] 3)).heap[N + 2]? = some (.cells #[.slice aoW W.length capW] 33 (0, 0))) := (Below.heap_alloc _ _ _ (by omega)).trans V1.out.wv
    have LA : N + 3 ≤ (V.alloc (.cells #[.int .i64 (i : Nat)] 3)).heap.size := by simp; omega
    have MR : Hid ((V.alloc (.cells #[.int .i64 (i : Nat)] 3)).heap[N]? = some (.cells (boolCells (M.set i true)) 4 (0, 0)) ∧ (V.alloc (.cells #[.int .i64 (i : Nat)] 3)).heap[N + 1]? = some (.cells #[.slice (some ⟨N, 0, none⟩) M.length M.length] 108 (0, 0))) := ⟨(Below.heap_alloc _ _ _ (by omega)).trans V1.out.mr, (Below.heap_alloc _ _ _ (by omega)).trans (by have := V1.out.mv; rw [List.length_set] at this; exact this)⟩
    have BA : Hid (Below N w (V.alloc (.cells #[.int .i64 (i : Nat)] 3))) := BV.out.alloc (by omega) _
    rw [HV.out] at R1 NW WV LA MR BA v0 v0'
    clear h hV hb
    go_enter Tryz.func186, Tryz.ntmps186
    go_wp2_with (at_builtin; refine wpList_push2 rfl (.tmp 12) (.tmp 14) 33 rfl (N + 3) 3 (.int .i64 0) 1 8 Tryz.infoI Tryz.undRowI rfl (by decide) (.slice aoW W.length capW) W.length (intCells W) rfl R1.out w.heap.size 1 [.int .i64 (i : Nat)] rfl rfl NW.out (one_i64 i) (by omega) (by omega) LA ?_; intro v' W3 hown hgr hsn; obtain ⟨ao', cap', rfl⟩ := row_shape hown; have HR : Hid (W3.ownsRow (N + 3) 3 1 (.slice ao' (W.length + 1) cap') (W.length + 1) (intCells W ++ [.int .i64 (i : Nat)])) := hown; have k1 := kept_grown WV.out (Kp.refl _ _) R1.out hgr (by decide); have K1 : Hid (W3.heap[N + 2]? = some (.cells #[.slice aoW W.length capW] 33 (0, 0))) := k1; have K2 : Hid (W3.heap[N]? = some (.cells (boolCells (M.set i true)) 4 (0, 0))) := kept_grown MR.out.1 (Kp.refl _ _) R1.out hgr (by decide); have K3 : Hid (W3.heap[N + 1]? = some (.cells #[.slice (some ⟨N, 0, none⟩) M.length M.length] 108 (0, 0))) := kept_grown MR.out.2 (Kp.refl _ _) R1.out hgr (by decide); have BW : Hid (Below N w W3) := BA.out.grown hgr (by omega) (fun k hk => by have := (R1.out.lt k hk).1; omega); have y0 := cell_of_block k1 0 _ rfl; have yf := free_of_block k1; clear hown hgr hsn k1)
    go_end0
    refine ⟨rfl, ⟨ao', cap', ?_⟩, BW.out.setCell (by show N ≤ N + 2; omega) _⟩
    rw [HM.out]
    refine ⟨(setCell_type (by omega)).trans K2.out, ?_, ?_, ?_⟩
    · rw [List.length_set]; exact (setCell_type (by omega)).trans K3.out
    · rw [List.length_append]; exact (block_setCell K1.out 0 _).trans rfl
    · rw [List.length_append, intCells_snoc]; exact row_kp HR.out ((Kp.refl _ _).setCell K1.out (by decide) _)
  · have HM : Hid (markM M W i = (M, W)) := by show _ = _; unfold markM; rw [if_neg (by rw [hb]; decide)]
    clear h hb
    go_enter Tryz.func186, Tryz.ntmps186
    go_wp2_with fail
    go_end0
    exact ⟨rfl, ⟨aoW, capW, by rw [HM.out]; exact HS.out⟩, Below.refl _ _⟩
end Go.Proofs.YtodagkkjfipbgaaGreatDoor
