/- strings.Clone, segments. -/
import Derived.Test.YtodagkkjfipbgaaGreatDoorSh4lone
import Derived.Test.YtodagkkjfipbgaaGreatDoorD6toV9
import Derived.Test.YtodagkkjfipbgaaGreatDoorV7toW5
import Derived.Test.YtodagkkjfipbgaaGreatDoorD1toD5
import Derived.Test.YtodagkkjfipbgaaGreatDoorH1toC2
import Derived.Test.YtodagkkjfipbgaaGreatDoorK4toK6
import Derived.Test.YtodagkkjfipbgaaGreatDoorJ6toK3
import Derived.Test.YtodagkkjfipbgaaGreatDoorQ5toK2
import Derived.Test.YtodagkkjfipbgaaGreatDoorP2toQ1
import Derived.Test.YtodagkkjfipbgaaGreatDoorJ8toQ4
import Derived.Test.YtodagkkjfipbgaaGreatDoorQ2toQ3
import Derived.Test.YtodagkkjfipbgaaGreatDoorBtoP1
import Derived.Test.YtodagkkjfipbgaaGreatDoorUlone
import Derived.Test.YtodagkkjfipbgaaGreatDoorShlone
import Derived.Test.YtodagkkjfipbgaaGreatDoorSh2lone
import Derived.Test.YtodagkkjfipbgaaGreatDoorN17toV1
import Derived.Test.YtodagkkjfipbgaaGreatDoorN15toN16
import Derived.Test.YtodagkkjfipbgaaGreatDoorN13toN14
import Derived.Test.YtodagkkjfipbgaaGreatDoorN12lone
import Derived.Test.YtodagkkjfipbgaaGreatDoorN10toN11
import Derived.Test.YtodagkkjfipbgaaGreatDoorN9lone
import Derived.Test.YtodagkkjfipbgaaGreatDoorN1toN5
import Derived.Test.YtodagkkjfipbgaaGreatDoorJ10toJ11
import Derived.Test.YtodagkkjfipbgaaGreatDoorK9toJ9
import Derived.Test.YtodagkkjfipbgaaGreatDoorK7toL3
import Derived.Test.YtodagkkjfipbgaaGreatDoorJ3toJ5
import Derived.Test.YtodagkkjfipbgaaGreatDoorJ2toJ7
import Derived.Test.YtodagkkjfipbgaaGreatDoorN8lone
import Derived.Test.YtodagkkjfipbgaaGreatDoorN6toN0
namespace Go.Proofs.YtodagkkjfipbgaaGreatDoor
open Go.RowKit Go.Maps Go.Lib

theorem Tryz.infoSg : (Tryz.prog.info? 9).map (fun i => (i.zero, i.size, i.bytes)) = some (some (.string ⟨#[]⟩), 1, 16) := by kernel_rfl
theorem Tryz.undSg : Tryz.prog.underlying 30 = some (.slice 9) := by kernel_rfl
theorem clone_any (s : ByteArray) (w : World) (h : s.size ≤ 1500000) : Calls Tryz.prog 99 #[.string s] w fun e w' => e = .returned (.string s) ∧ Below w.heap.size w w' := by
  have hc : Calls Tryz.prog 152 #[.string s] w fun e w' => e = .returned (.string s) ∧ Below w.heap.size w w' := by
    have h1 := AnyPu.stringslite_Clone Tryz.laysClone s w (by omega)
    rw [show Tryz.laysClone_ren.f 25 = 152 from by kernel_rfl] at h1
    exact h1
  go_enter Tryz.func99, Tryz.ntmps99
  go_wp2_with fail
  refine hc.mono ?_
  rintro r w1 ⟨rfl, b1⟩
  go_wp2_with fail
  go_ret
  exact ⟨rfl, b1⟩
/-- Where a segment began, how far one is, what is told. -/
abbrev SegSt : Type := Nat × Nat × List ByteArray
def segStep (s : ByteArray) (st : SegSt) (x : Nat × Bool) : SegSt := if x.2 then (st.2.1 + x.1, st.2.1 + x.1, st.2.2 ++ [s.extract st.1 (st.2.1 + x.1)]) else (st.1, st.2.1 + x.1, st.2.2)
def segSt (s : ByteArray) (ns : List Nat) (cs : List Bool) (i : Nat) : SegSt := ((ns.zip (cs.drop 1)).take i).foldl (segStep s) (0, 0, [])
theorem segSt_succ {s : ByteArray} {ns : List Nat} {cs : List Bool} {i n : Nat} {c : Bool} (hn : ns[i]? = some n) (hc : cs[i + 1]? = some c) : segSt s ns cs (i + 1) = segStep s (segSt s ns cs i) (n, c) := by
  unfold segSt
  have h : (ns.zip (cs.drop 1))[i]? = some (n, c) := by
    rw [List.getElem?_zip_eq_some]
    exact ⟨hn, by rw [List.getElem?_drop, Nat.add_comm]; exact hc⟩
  rw [List.take_add_one, h, List.foldl_append]
  rfl
structure SegOk (s : ByteArray) (ns : List Nat) (i : Nat) (st : SegSt) : Prop where
  end_ : st.2.1 = (ns.take i).sum
  order : st.1 ≤ st.2.1
  few : st.2.2.length ≤ i
theorem sumTake_le (ns : List Nat) (i : Nat) : (ns.take i).sum ≤ ns.sum := by
  have h := congrArg List.sum (List.take_append_drop i ns)
  rw [List.sum_append] at h
  omega
theorem sumTake_succ {ns : List Nat} {i n : Nat} (h : ns[i]? = some n) : (ns.take (i + 1)).sum = (ns.take i).sum + n := by rw [List.take_add_one, h, List.sum_append]; simp
theorem segOk (s : ByteArray) {ns : List Nat} {cs : List Bool} (h : cs.length = ns.length + 1) : ∀ i, i ≤ ns.length → SegOk s ns i (segSt s ns cs i) := by
  intro i
  induction i with
  | zero => intro _; exact ⟨by unfold segSt; simp, by unfold segSt; simp, by unfold segSt; simp⟩
  | succ i ih =>
    intro hi
    have h1 := ih (by omega)
    have hn : ns[i]? = some ns[i] := List.getElem?_eq_getElem (by omega)
    have hc : cs[i + 1]? = some (cs[i + 1]'(by omega)) := List.getElem?_eq_getElem (by omega)
    rw [segSt_succ hn hc]
    generalize segSt s ns cs i = st at h1
    generalize (cs[i + 1]'(by omega)) = c
    have e := sumTake_succ hn
    have h2 := h1.end_
    have h3 := h1.order
    have h4 := h1.few
    unfold segStep
    cases c with
    | true => exact ⟨by simp; omega, by simp, by simp; omega⟩
    | false => exact ⟨by simp; omega, by simp; omega, by simp; omega⟩
def strCells (l : List ByteArray) : List Value := l.map Value.string
theorem strCells_snoc (l : List ByteArray) (s : ByteArray) : strCells (l ++ [s]) = strCells l ++ [.string s] := by unfold strCells; rw [List.map_append]; rfl
theorem strCells_at {l : List ByteArray} {i : Nat} {s : ByteArray} (h : l[i]? = some s) : (strCells l)[i]? = some (.string s) := by unfold strCells; rw [List.getElem?_map, h]; rfl
theorem one_str (s : ByteArray) : ∀ u ∈ [Value.string s], u.oneCell' = true := by intro u hu; simp at hu; subst hu; rfl

set_option maxRecDepth 100000 in
set_option maxHeartbeats 4000000 in
theorem segments_any (s : ByteArray) (vN : Value) (ns : List Nat) (g : Nat) (cs : List Bool) (w : World) (hN : w.ownsRow 0 5 1 vN ns.length (kCells ns)) (hC : w.heap[g]? = some (.cells (boolCells cs) 4 (0, 0))) (hcl : cs.length = ns.length + 1) (hsum : ns.sum = s.size) (h4 : ∀ n ∈ ns, n ≤ 4) (hlen : s.size ≤ 1500000) (hnl : ns.length ≤ 1500000) :
    Calls Tryz.prog 52 #[.string s, vN, .slice (some ⟨g, 0, none⟩) (ns.length + 1) (ns.length + 1)] w fun r w' => (∃ v, r = .returned v ∧ w'.ownsRow w.heap.size 9 1 v (segSt s ns cs ns.length).2.2.length (strCells (segSt s ns cs ns.length).2.2)) ∧ Below w.heap.size w w' := by
  obtain ⟨aN, cN, rfl⟩ := row_shape hN
  have HN : Hid (w.ownsRow 0 5 1 (.slice aN ns.length cN) ns.length (kCells ns)) := hN
  have HC : Hid (w.heap[g]? = some (.cells (boolCells cs) 4 (0, 0))) := hC
  have HOK : Hid (∀ i, i ≤ ns.length → SegOk s ns i (segSt s ns cs i)) := segOk s hcl
  have HCL : Hid (cs.length = ns.length + 1) := hcl
  have HS : Hid (ns.sum = s.size) := hsum
  have H4 : Hid (∀ n ∈ ns, n ≤ 4) := h4
  clear hN hC hcl hsum h4
  go_enter Tryz.func52, Tryz.ntmps52
  go_wp2_with fail
  go_loopg [7, 8, 9, 14] ns.length (fun gh tv bv ev iv wx => ∃ (i b e : Nat) (told : List ByteArray) (ao : Option Addr) (cap : Nat), i ≤ ns.length ∧ gh = ns.length - i ∧ tv = .slice ao told.length cap ∧ bv = .int .i64 b ∧ ev = .int .i64 e ∧ iv = .int .i64 i ∧ Hid (segSt s ns cs i = (b, e, told)) ∧ Hid (wx.ownsRow w.heap.size 9 1 (.slice ao told.length cap) told.length (strCells told)) ∧ Hid (Below w.heap.size w wx))
  case atStart => exact ⟨0, 0, 0, [], none, 0, Nat.zero_le _, rfl, rfl, rfl, rfl, rfl, rfl, World.ownsRow_nil _ _ _ _, Below.refl _ _⟩
  case round =>
    obtain ⟨i, b, e, told, ao, cap, hi, rfl, rfl, rfl, rfl, rfl, hSt, hW, hB⟩ := hrel
    obtain ⟨w1, hw1⟩ : ∃ w1, w1 = wr := ⟨wr, rfl⟩
    subst hw1
    have hs1 := hB.out.size
    have hok := HOK.out i hi
    rw [hSt.out] at hok
    have hbe : b ≤ e := hok.order
    have hel : e = (ns.take i).sum := hok.end_
    have htl : told.length ≤ 1500000 := by have : told.length ≤ i := hok.few; omega
    clear hok
    by_cases hlt : i < ns.length
    · obtain ⟨n, hn⟩ : ∃ n, ns[i]? = some n := ⟨ns[i], List.getElem?_eq_getElem hlt⟩
      obtain ⟨c, hc⟩ : ∃ c, cs[i + 1]? = some c := ⟨cs[i + 1]'(by rw [HCL.out]; omega), List.getElem?_eq_getElem _⟩
      have hn4 := H4.out n (List.mem_of_getElem? hn)
      have hen : e + n ≤ s.size := by
        have h1 := sumTake_succ hn
        have h2 := sumTake_le ns (i + 1)
        rw [HS.out] at h2
        omega
      have hst' : segSt s ns cs (i + 1) = segStep s (b, e, told) (n, c) := by rw [segSt_succ hn hc, hSt.out]
      obtain ⟨qN, hqN, _, hcN⟩ := row_at (row_kp HN.out (Kp.below hB.out)) (kCells_at hn) (by omega)
      subst hqN
      have hcC : w1.cell? ⟨g, i + 1, none⟩ = some (.bool c) := cell_of_block ((hB.out.block _ (heap_lt HC.out)).trans HC.out) (i + 1) _ (boolCells_at hc)
      clear hel hn hc
      cases c with
      | false =>
        have ST : Hid (segSt s ns cs (i + 1) = (b, e + n, told)) := hst'
        clear hst'
        go_wp2_with fail
        go_roundg (ns.length - (i + 1))
        case measure => omega
        case rel => exact ⟨i + 1, b, e + n, told, ao, cap, by omega, rfl, rfl, rfl, by go_num, by go_num, ST, hW, hB⟩
      | true =>
        have ST : Hid (segSt s ns cs (i + 1) = (e + n, e + n, told ++ [s.extract b (e + n)])) := hst'
        have hz : (s.extract b (e + n)).size ≤ 1500000 := by rw [ByteArray.size_extract]; omega
        have hcl := clone_any (s.extract b (e + n)) w1 hz
        clear hst' hz
        obtain ⟨x, hx⟩ : ∃ x, x = s.extract b (e + n) := ⟨_, rfl⟩
        have HX : Hid (x = s.extract b (e + n)) := hx
        rw [← hx] at hcl
        go_wp2_with fail
        rw [← HX.out]
        clear hx
        refine hcl.mono ?_
        rintro r w2 ⟨rfl, b2⟩
        have B2 : Hid (Below w.heap.size w w2) := hB.out.trans (b2.mono hs1)
        have R1 : Hid ((w2.alloc (.cells #[.string x] 9)).ownsRow w.heap.size 9 1 (.slice ao told.length cap) told.length (strCells told)) := row_kp (row_kp hW.out (Kp.below b2)) (Kp.below (below_alloc w2 _))
        have NW : Hid (∀ (j : Nat) (u : Value), [Value.string x][j]? = some u → (w2.alloc (.cells #[.string x] 9)).cell? ⟨w2.heap.size, j, none⟩ = some u) := fun j u hu => cell_of_block (heap_alloc_new w2 _) j u (by simpa using hu)
        have BA : Hid (Below w.heap.size w (w2.alloc (.cells #[.string x] 9))) := B2.out.alloc B2.out.size _
        have LA : w.heap.size ≤ (w2.alloc (.cells #[.string x] 9)).heap.size := BA.out.size
        clear hcl b2 hcC hcN
        go_wp2_with (at_builtin; refine wpList_push2 rfl (.tmp 28) (.tmp 34) 30 rfl w.heap.size 9 (.string ⟨#[]⟩) 1 16 Tryz.infoSg Tryz.undSg rfl (by decide) (.slice ao told.length cap) told.length (strCells told) rfl R1.out w2.heap.size 1 [.string x] rfl rfl NW.out (one_str x) (by omega) (by omega) LA ?_; intro v' W3 hown hgr hsn; obtain ⟨ao', cap', rfl⟩ := row_shape hown; have HR : Hid (W3.ownsRow w.heap.size 9 1 (.slice ao' (told.length + 1) cap') (told.length + 1) (strCells told ++ [.string x])) := hown; have B3 : Hid (Below w.heap.size w W3) := BA.out.grown hgr LA (fun k hk => (R1.out.lt k hk).1); clear hown hgr hsn)
        go_roundg (ns.length - (i + 1))
        case measure => omega
        case rel =>
          refine ⟨i + 1, e + n, e + n, told ++ [x], ao', cap', by omega, rfl, by rw [List.length_append]; rfl, by go_num, by go_num, by go_num, by rw [HX.out]; exact ST, ?_, B3⟩
          rw [List.length_append, strCells_snoc]
          exact HR
    · obtain rfl : i = ns.length := by omega
      have ST : Hid (segSt s ns cs ns.length = (b, e, told)) := hSt
      go_wp2_with fail
      go_ret
      refine ⟨⟨_, rfl, ?_⟩, hB.out⟩
      rw [ST.out]
      exact hW.out
end Go.Proofs.YtodagkkjfipbgaaGreatDoor
/- settle. -/
namespace Go.Proofs.YtodagkkjfipbgaaGreatDoor
open Go.RowKit Go.Maps

/-- Views, of which the first n are told whether they are settled. -/
def setTo (n : Nat) (f : Nat → Bool) (V : List Vw) : List Vw := V.mapIdx fun j v => if j < n then (v.1, f j, v.2.2) else v
theorem setTo_len (n : Nat) (f : Nat → Bool) (V : List Vw) : (setTo n f V).length = V.length := by unfold setTo; simp
theorem setTo_at (n : Nat) (f : Nat → Bool) (V : List Vw) (i : Nat) : (setTo n f V)[i]? = (V[i]?).map fun v => if i < n then (v.1, f i, v.2.2) else v := by unfold setTo; rw [List.getElem?_mapIdx]
theorem setTo_zero (f : Nat → Bool) (V : List Vw) : setTo 0 f V = V := by
  apply List.ext_getElem?
  intro i
  rw [setTo_at]
  cases V[i]? <;> simp
theorem setTo_succ {n : Nat} {f : Nat → Bool} {V : List Vw} {v : Vw} (h : V[n]? = some v) : setTo (n + 1) f V = (setTo n f V).set n (v.1, f n, v.2.2) := by
  apply List.ext_getElem?
  intro i
  rw [setTo_at, List.getElem?_set, setTo_len, setTo_at]
  have hn := (List.getElem?_eq_some_iff.1 h).1
  by_cases e : n = i
  · subst e; rw [if_pos rfl, if_pos hn, h]; simp
  · rw [if_neg e]
    cases V[i]? with
    | none => rfl
    | some y =>
      simp only [Option.map_some, Option.some.injEq]
      by_cases h1 : i < n
      · rw [if_pos (by omega), if_pos h1]
      · rw [if_neg (by omega), if_neg h1]
theorem setTo_same {n : Nat} (f : Nat → Bool) {V : List Vw} {i : Nat} (h : n ≤ i) : (setTo n f V)[i]? = V[i]? := by
  rw [setTo_at]
  cases V[i]? with
  | none => rfl
  | some y => simp only [Option.map_some]; rw [if_neg (by omega)]
theorem setTo_eight {n : Nat} {f : Nat → Bool} {V : List Vw} (h : ∀ v ∈ V, v.2.2.length = 8) : ∀ v ∈ setTo n f V, v.2.2.length = 8 := fun v hv => by
  obtain ⟨i, hi⟩ := List.mem_iff_getElem?.1 hv
  rw [setTo_at] at hi
  cases hx : V[i]? with
  | none => rw [hx] at hi; simp at hi
  | some y =>
    rw [hx] at hi
    simp only [Option.map_some, Option.some.injEq] at hi
    have := h y (List.mem_of_getElem? hx)
    rw [← hi]
    split <;> exact this
theorem viewCells_set : ∀ (V : List Vw) (i : Nat) (v : Vw) (b : Bool), (∀ y ∈ V, y.2.2.length = 8) → V[i]? = some v → viewCells (V.set i (v.1, b, v.2.2)) = (viewCells V).set (i * 10 + 1) (.bool b) := by
  intro V
  induction V with
  | nil => intro i v b _ h; simp at h
  | cons a V ih =>
    intro i v b hr h
    have hla : (viewCell a).length = 10 := by unfold viewCell; simp [hr a List.mem_cons_self]
    have e : ∀ (x : Vw) (Y : List Vw), viewCells (x :: Y) = viewCell x ++ viewCells Y := fun _ _ => rfl
    cases i with
    | zero =>
      simp at h
      subst h
      rw [List.set_cons_zero, e, e, List.set_append, if_pos (by omega)]
      rfl
    | succ i =>
      have := ih i v b (fun y hy => hr y (List.mem_cons_of_mem _ hy)) (by simpa using h)
      rw [List.set_cons_succ, e, e, this, List.set_append, if_neg (by omega), hla, show (i + 1) * 10 + 1 - 10 = i * 10 + 1 from by omega]
/-- Settled: it cannot be both. -/
def setF (MC MJ : List Bool) (i : Nat) : Bool := !((MC[i]?).getD false) || !((MJ[i]?).getD false)
set_option maxRecDepth 100000 in
set_option maxHeartbeats 4000000 in
theorem settle_any (base o : Nat) (ks : List Nat) (vP vH : Value) (V : List Vw) (aoV : Option Addr) (capV : Nat) (w : World) (hks : ∀ k ∈ ks, k < 8) (hkl : ks.length ≤ 8) (hP : w.ownsRow 0 169 1 vP ks.length (kCells ks)) (hW : w.ownsRow base 254 10 (.slice aoV V.length capV) V.length (viewCells V)) (hV : VGood ks V) (hVl : V.length ≤ 320000)
    (hO : w.heap[o]? = some (.cells #[vP, vH, .slice aoV V.length capV] 95 (0, 0))) :
    Calls Tryz.prog 86 #[.pointer (some ⟨o, 0, none⟩)] w fun r w' => r = .returned (.tuple #[]) ∧ (∃ MC MJ : List Bool, w'.ownsRow base 254 10 (.slice aoV V.length capV) V.length (viewCells (setTo V.length (setF MC MJ) V)) ∧ MC.length = V.length ∧ MJ.length = V.length ∧ (∀ i, MC[i]? = some true ↔ mayV ks (plainV V) true i) ∧ (∀ i, MJ[i]? = some true ↔ mayV ks (plainV V) false i)) ∧ Chg (fun k => (Value.slice aoV V.length capV).ownBlock = some k) w w' := by
  obtain ⟨aoP, capP, rfl⟩ := row_shape hP
  have HP : Hid (w.ownsRow 0 169 1 (.slice aoP ks.length capP) ks.length (kCells ks)) := hP
  have HWV : Hid (w.ownsRow base 254 10 (.slice aoV V.length capV) V.length (viewCells V)) := hW
  have HV : Hid (VGood ks V) := hV
  have HKS : Hid (∀ k ∈ ks, k < 8) := hks
  have HO : Hid (w.heap[o]? = some (.cells #[.slice aoP ks.length capP, vH, .slice aoV V.length capV] 95 (0, 0))) := hO
  have hol := heap_lt hO
  clear hP hW hV hks hO
  go_enter Tryz.func86, Tryz.ntmps86
  go_wp2_with fail
  refine (sources_any base o ks _ vH V aoV capV w HKS.out hkl HP.out HWV.out HV.out hVl HO.out).mono ?_
  rintro r w1 ⟨vS, src, rv, rfl, hS1, hSO, hSl, hb1⟩
  have S1 : Hid (SRw w1 w.heap.size vS src rv) := hS1
  have SO : Hid (SrcOk ks (plainV V) src) := hSO
  have SL : Hid (∀ l ∈ src, l.length ≤ 2560000) := hSl
  have B1 : Hid (Below w.heap.size w w1) := hb1
  have W1 : Hid (w1.ownsRow base 254 10 (.slice aoV V.length capV) V.length (viewCells V)) := row_kp HWV.out (Kp.below hb1)
  have O1 : Hid (w1.heap[o]? = some (.cells #[.slice aoP ks.length capP, vH, .slice aoV V.length capV] 95 (0, 0))) := (hb1.block o hol).trans HO.out
  have hs1 := hb1.size
  obtain ⟨aoS, capS, rfl⟩ := row_shape hS1.row
  clear hS1 hSO hSl hb1
  go_wp2_with fail
  refine (mayEnd_any base w.heap.size o ks _ vH _ V aoV capV src rv true w1 W1.out HV.out hVl O1.out S1.out SO.out SL.out).mono ?_
  rintro r w2 ⟨MC, rfl, hC2, hCl, hCm, hb2⟩
  have C2 : Hid (w2.heap[w1.heap.size]? = some (.cells (boolCells MC) 4 (0, 0))) := hC2
  have HCM : Hid (MC.length = V.length ∧ ∀ i, MC[i]? = some true ↔ mayV ks (plainV V) true i) := ⟨hCl, hCm⟩
  have B2 : Hid (Below w.heap.size w w2) := B1.out.trans (hb2.mono hs1)
  have S2 : Hid (SRw w2 w.heap.size (.slice aoS src.length capS) src rv) := S1.out.kpa (KpA.below hb2)
  have W2 : Hid (w2.ownsRow base 254 10 (.slice aoV V.length capV) V.length (viewCells V)) := row_kp W1.out (Kp.below hb2)
  have O2 : Hid (w2.heap[o]? = some (.cells #[.slice aoP ks.length capP, vH, .slice aoV V.length capV] 95 (0, 0))) := (hb2.block o (heap_lt O1.out)).trans O1.out
  have hs2 := hb2.size
  clear hC2 hCm hb2 hCl
  go_wp2_with fail
  refine (mayEnd_any base w.heap.size o ks _ vH _ V aoV capV src rv false w2 W2.out HV.out hVl O2.out S2.out SO.out SL.out).mono ?_
  rintro r w3 ⟨MJ, rfl, hJ3, hJl, hJm, hb3⟩
  have J3 : Hid (w3.heap[w2.heap.size]? = some (.cells (boolCells MJ) 4 (0, 0))) := hJ3
  have C3 : Hid (w3.heap[w1.heap.size]? = some (.cells (boolCells MC) 4 (0, 0))) := (hb3.block _ (heap_lt C2.out)).trans C2.out
  have HJM : Hid (MJ.length = V.length ∧ ∀ i, MJ[i]? = some true ↔ mayV ks (plainV V) false i) := ⟨hJl, hJm⟩
  have B3 : Hid (Below w.heap.size w w3) := B2.out.trans (hb3.mono (by omega))
  have W3 : Hid (w3.ownsRow base 254 10 (.slice aoV V.length capV) V.length (viewCells (setTo 0 (setF MC MJ) V))) := by rw [setTo_zero]; exact row_kp W2.out (Kp.below hb3)
  have O3 : Hid (w3.heap[o]? = some (.cells #[.slice aoP ks.length capP, vH, .slice aoV V.length capV] 95 (0, 0))) := (hb3.block o (heap_lt O2.out)).trans O2.out
  have o3 : w3.cell? ⟨o, 2, none⟩ = some (.slice aoV V.length capV) := cell_of_block O3.out 2 _ rfl
  have X3 : Hid (Chg (fun k => (Value.slice aoV V.length capV).ownBlock = some k) w w3) := Chg.of_below B3.out
  clear hJ3 hJm hb3 C2 S1 S2 hJl
  go_wp2_with fail
  go_loopg [19] V.length (fun gh iv wx => ∃ i : Nat, i ≤ V.length ∧ gh = V.length - i ∧ iv = .int .i64 i ∧ Hid (wx.ownsRow base 254 10 (.slice aoV V.length capV) V.length (viewCells (setTo i (setF MC MJ) V))) ∧ Hid (wx.heap[o]? = some (.cells #[.slice aoP ks.length capP, vH, .slice aoV V.length capV] 95 (0, 0))) ∧ Hid (wx.heap[w1.heap.size]? = some (.cells (boolCells MC) 4 (0, 0))) ∧ Hid (wx.heap[w2.heap.size]? = some (.cells (boolCells MJ) 4 (0, 0))) ∧ Hid (Chg (fun k => (Value.slice aoV V.length capV).ownBlock = some k) w wx))
  case atStart => exact ⟨0, Nat.zero_le _, rfl, rfl, W3, O3, C3, J3, X3⟩
  case round =>
    obtain ⟨i, hi, rfl, rfl, hW4, hO4, hC4, hJ4, hX4⟩ := hrel
    obtain ⟨w4, hw4⟩ : ∃ w4, w4 = wr := ⟨wr, rfl⟩
    subst hw4
    clear W3 O3 C3 J3 X3 o3
    by_cases hlt : i < V.length
    · have hCl := HCM.out.1
      have hJl := HJM.out.1
      obtain ⟨mc, hmc⟩ : ∃ b, MC[i]? = some b := ⟨MC[i]'(by omega), List.getElem?_eq_getElem _⟩
      obtain ⟨mj, hmj⟩ : ∃ b, MJ[i]? = some b := ⟨MJ[i]'(by omega), List.getElem?_eq_getElem _⟩
      obtain ⟨v, hv⟩ : ∃ v, V[i]? = some v := ⟨V[i], List.getElem?_eq_getElem hlt⟩
      have h8 := setTo_eight (n := i) (f := setF MC MJ) (fun v h => (HV.out v h).1)
      have hvi := (setTo_same (setF MC MJ) (Nat.le_refl i)).trans hv
      have HST : Hid (viewCells (setTo (i + 1) (setF MC MJ) V) = (viewCells (setTo i (setF MC MJ) V)).set (i * 10 + 1) (.bool (!mc || !mj))) := by
        show _ = _
        rw [setTo_succ hv, viewCells_set _ i v _ h8 hvi]
        unfold setF
        rw [hmc, hmj]
        rfl
      have hW4' : w4.ownsRow base 254 10 (.slice aoV (setTo i (setF MC MJ) V).length capV) (setTo i (setF MC MJ) V).length (viewCells (setTo i (setF MC MJ) V)) := by rw [setTo_len]; exact hW4.out
      obtain ⟨gV, hgV, hgl, hvc⟩ := view_cells hW4' h8 hvi
      subst hgV
      have d1 := hvc 1 _ rfl
      obtain ⟨cur, hcur⟩ := row_type hW4.out gV rfl
      have HG : Hid (w4.heap[gV]? = some (.cells cur 254 (0, 0))) := hcur
      have df := free_of_block hcur
      have a2 : w4.cell? ⟨o, 2, none⟩ = some (.slice (some ⟨gV, 0, none⟩) V.length capV) := cell_of_block hO4.out 2 _ rfl
      have e1 : w4.cell? ⟨w1.heap.size, i, none⟩ = some (.bool mc) := cell_of_block hC4.out i _ (boolCells_at hmc)
      have e2 : w4.cell? ⟨w2.heap.size, i, none⟩ = some (.bool mj) := cell_of_block hJ4.out i _ (boolCells_at hmj)
      have hCi : (i : Int) < (MC.length : Int) := by omega
      have hJi : (i : Int) < (MJ.length : Int) := by omega
      have HCL : Hid (MC.length = V.length ∧ MJ.length = V.length) := ⟨hCl, hJl⟩
      clear hvc hW4' hvi hcur h8 hCl hJl hmc hmj hv
      have HN : Hid (Chg (fun k => (Value.slice (some ⟨gV, 0, none⟩) V.length capV).ownBlock = some k) w (w4.setCell ⟨gV, i * 10 + 1, none⟩ (.bool (!mc || !mj)))) := hX4.out.setCell (q := ⟨gV, i * 10 + 1, none⟩) (Or.inr rfl) _
      have HR : Hid ((w4.setCell ⟨gV, i * 10 + 1, none⟩ (.bool (!mc || !mj))).ownsRow base 254 10 (.slice (some ⟨gV, 0, none⟩) V.length capV) V.length (viewCells (setTo (i + 1) (setF MC MJ) V))) := by rw [HST.out]; exact row_set hW4.out _ _
      have HO5 : Hid ((w4.setCell ⟨gV, i * 10 + 1, none⟩ (.bool (!mc || !mj))).heap[o]? = some (.cells #[.slice aoP ks.length capP, vH, .slice (some ⟨gV, 0, none⟩) V.length capV] 95 (0, 0))) := (Kp.refl _ _).setCell HG.out (by decide) _ _ _ _ hO4.out
      have HC5 : Hid ((w4.setCell ⟨gV, i * 10 + 1, none⟩ (.bool (!mc || !mj))).heap[w1.heap.size]? = some (.cells (boolCells MC) 4 (0, 0))) := (Kp.refl _ _).setCell HG.out (by decide) _ _ _ _ hC4.out
      have HJ5 : Hid ((w4.setCell ⟨gV, i * 10 + 1, none⟩ (.bool (!mc || !mj))).heap[w2.heap.size]? = some (.cells (boolCells MJ) 4 (0, 0))) := (Kp.refl _ _).setCell HG.out (by decide) _ _ _ _ hJ4.out
      cases mc <;> cases mj
      all_goals go_wp2_with fail
      all_goals go_region
      all_goals go_wp2_with fail
      all_goals go_roundg (V.length - (i + 1))
      all_goals first
        | (case measure => omega)
        | exact ⟨i + 1, by omega, rfl, by go_num, HR, HO5, HC5, HJ5, HN.out.drew⟩
    · have e : i = V.length := by omega
      subst e
      go_wp2_with fail
      go_end0
      exact ⟨rfl, ⟨MC, MJ, hW4.out, HCM.out.1, HJM.out.1, HCM.out.2, HJM.out.2⟩, hX4.out⟩
end Go.Proofs.YtodagkkjfipbgaaGreatDoor
/- ahead.Make. -/
namespace Go.Proofs.YtodagkkjfipbgaaGreatDoor
open Go.RowKit Go.Maps

/-- What an outlook holds. -/
structure OutS (Ls : List RuleM) (ks : List Nat) (J : AJ) (X K : List Spt) (H : List Hd) (V : List Vw) (MC MJ : List Bool) : Prop where
  rules : JOk Ls J
  good : ∀ r ∈ J, ARuleOk r
  heads : HeadsOk J ks X K H
  hlen : H.length = X.length
  first : X[0]? = some (false, [0, 0, 0, 0])
  pasts : ∀ x ∈ X, PastOk J x
  knowns : ∀ x ∈ K, KnownOk J x
  views : ViewsOk J ks K V
  vlen : V.length = K.length
  mc : MC.length = V.length ∧ ∀ i, MC[i]? = some true ↔ mayV ks (plainV V) true i
  mj : MJ.length = V.length ∧ ∀ i, MJ[i]? = some true ↔ mayV ks (plainV V) false i
/-- The outlook, in memory. -/
def OutIn (w : World) (vP vH vV : Value) (Ls : List RuleM) (ks : List Nat) : Prop :=
  ∃ J X K H V MC MJ, OutS Ls ks J X K H V MC MJ ∧ w.ownsRow 0 169 1 vP ks.length (kCells ks) ∧ w.ownsRow 0 246 9 vH H.length (headCells H) ∧ w.ownsRow 0 254 10 vV V.length (viewCells (setTo V.length (setF MC MJ) V))
theorem ViewsOk.good {J : AJ} {ks : List Nat} {K : List Spt} {V : List Vw} (h : ViewsOk J ks K V) (hl : V.length = K.length) : VGood ks V := fun v hv => by
  obtain ⟨i, hi⟩ := List.mem_iff_getElem?.1 hv
  obtain ⟨x, _, h1, _, h2⟩ := h i v hi
  refine ⟨h1, fun k hk => ?_⟩
  obtain ⟨n, h3, h4⟩ := h2 k hk
  exact ⟨n, h3, by rw [hl]; exact (List.getElem?_eq_some_iff.1 h4).1⟩
theorem set3 {w : World} {q : Nat} {a b c d e f : Value} {t : TypeId} (h : w.heap[q]? = some (.cells #[a, b, c] t (0, 0))) :
    (((w.setCell ⟨q, 0, none⟩ d).setCell ⟨q, 1, none⟩ e).setCell ⟨q, 2, none⟩ f).heap[q]? = some (.cells #[d, e, f] t (0, 0)) :=
  (block_setCell ((block_setCell ((block_setCell h 0 _).trans rfl) 1 _).trans rfl) 2 _).trans rfl

set_option maxRecDepth 100000 in
set_option maxHeartbeats 4000000 in
theorem amake_any (lb : Nat) (vL vP : Value) (Ls : List RuleM) (ks : List Nat) (w : World) (hL : LIn lb w vL Ls) (hok : ∀ L ∈ Ls, RuleOk L) (hlen : Ls.length ≤ 4) (hks : ∀ k ∈ ks, k < 8) (hkl : ks.length ≤ 8) (hP : w.ownsRow 0 169 1 vP ks.length (kCells ks)) :
    Calls Tryz.prog 44 #[vL, vP] w fun r w' => ∃ vH vV, r = .returned (.agg #[vP, vH, vV]) ∧ (∃ a b c, vH = .slice a b c) ∧ (∃ a b c, vV = .slice a b c) ∧ OutIn w' vP vH vV Ls ks ∧ Below w.heap.size w w' := by
  obtain ⟨aoL, capL, rfl, _⟩ := hL.form
  obtain ⟨aoP, capP, rfl⟩ := row_shape hP
  have HL : Hid (LIn lb w (.slice aoL Ls.length capL) Ls) := hL
  have HP : Hid (w.ownsRow 0 169 1 (.slice aoP ks.length capP) ks.length (kCells ks)) := hP
  have HKS : Hid (∀ k ∈ ks, k < 8) := hks
  have HOK : Hid (∀ L ∈ Ls, RuleOk L) := hok
  clear hL hP hks hok
  have b0 := below_alloc w (.cells #[.slice none 0 0, .slice none 0 0, .slice none 0 0] 95)
  have R0 : Hid ((w.alloc (.cells #[.slice none 0 0, .slice none 0 0, .slice none 0 0] 95)).heap[w.heap.size]? = some (.cells #[.slice none 0 0, .slice none 0 0, .slice none 0 0] 95 (0, 0))) := heap_alloc_new w _
  have B0 : Hid (Below w.heap.size w (w.alloc (.cells #[.slice none 0 0, .slice none 0 0, .slice none 0 0] 95))) := b0
  clear b0
  go_enter Tryz.func44, Tryz.ntmps44
  go_wp2_with fail
  refine (makeJudge_any lb _ Ls _ (HL.out.below B0.out) HOK.out (by omega)).mono ?_
  rintro r w1 ⟨vJ, J, vs, rfl, hA, hJO, hb1⟩
  obtain ⟨aoJ, capJ, rfl, _⟩ := hA.form
  have A1 : Hid (AIn 0 w1 (.slice aoJ J.length capJ) J vs) := ⟨hA.len, row_base hA.row (Nat.zero_le _), hA.tab, hA.ok⟩
  have JO : Hid (JOk Ls J) := hJO
  have hJl : J.length ≤ 4 := by rw [hJO.1]; exact hlen
  have B1 : Hid (Below w.heap.size w w1) := B0.out.trans (hb1.mono (by simp))
  have R1 : Hid (w1.heap[w.heap.size]? = some (.cells #[.slice none 0 0, .slice none 0 0, .slice none 0 0] 95 (0, 0))) := (hb1.block _ (by simp)).trans R0.out
  have hs1 := B1.out.size
  have hr1 := heap_lt R1.out
  clear hA hJO hb1
  obtain ⟨W1, hW1⟩ : ∃ W1, W1 = (w1.alloc (.cells #[.slice aoP ks.length capP, .slice none 0 0, .slice none 0 0] 95)).alloc (.cells #[.slice none 0 0, .map none] 164) := ⟨_, rfl⟩
  have HW1 : Hid (W1 = (w1.alloc (.cells #[.slice aoP ks.length capP, .slice none 0 0, .slice none 0 0] 95)).alloc (.cells #[.slice none 0 0, .map none] 164)) := hW1
  have b2 : Below w1.heap.size w1 W1 := by rw [hW1]; exact (below_alloc w1 _).alloc (by simp) _
  have hz1 : W1.heap.size = w1.heap.size + 2 := by rw [hW1]; simp
  have O1 : Hid (W1.heap[w1.heap.size]? = some (.cells #[.slice aoP ks.length capP, .slice none 0 0, .slice none 0 0] 95 (0, 0))) := by rw [hW1, Below.heap_alloc _ _ _ (by simp)]; exact heap_alloc_new w1 _
  have K1 : Hid (FInK w.heap.size W1 (w1.heap.size + 1) [] none 0 none) := by
    refine ⟨?_, World.ownsRow_nil _ _ _ _, Or.inl ⟨rfl, rfl⟩, List.nodup_nil, fun x hx => by simp at hx⟩
    rw [hW1]
    exact (show (w1.alloc (.cells #[.slice aoP ks.length capP, .slice none 0 0, .slice none 0 0] 95)).heap.size = w1.heap.size + 1 by simp) ▸ heap_alloc_new (w1.alloc _) _
  have A2 : Hid (AIn 0 W1 (.slice aoJ J.length capJ) J vs) := A1.out.below b2
  have B2 : Hid (Below w.heap.size w W1) := B1.out.trans (b2.mono hs1)
  have P2 : Hid (W1.ownsRow 0 169 1 (.slice aoP ks.length capP) ks.length (kCells ks)) := row_kp HP.out (Kp.below B2.out)
  have R2 : Hid (W1.heap[w.heap.size]? = some (.cells #[.slice none 0 0, .slice none 0 0, .slice none 0 0] 95 (0, 0))) := (b2.block _ hr1).trans R1.out
  clear hW1 b2 A1 R0 R1
  go_wp2_with fail
  rw [← HW1.out]
  refine (lookBack_any (w.heap.size + 1) (w1.heap.size + 1) w1.heap.size J vs _ ks _ W1 hJl HKS.out hkl A2.out P2.out ⟨K1.out.blk, World.ownsRow_nil _ _ _ _, Or.inl ⟨rfl, rfl⟩, List.nodup_nil, fun x hx => by simp at hx⟩ O1.out (by omega) (by omega) (by omega)).mono ?_
  rintro r w3 ⟨rfl, p, X, aoX, capX, moX, K, aoK, capK, moK, H, aoH, capH, hLB, hHO, hHl, hKO, hXO, hX0, hb3⟩
  have L3 : Hid (LOn (w.heap.size + 1) w3 (w1.heap.size + 1) w1.heap.size J vs (.slice aoJ J.length capJ) ks (.slice aoP ks.length capP) K aoK capK moK H (.slice aoH H.length capH) [] none 0) := ⟨hLB.fk, hLB.aj, hLB.ps, hLB.hd, World.ownsRow_nil _ _ _ _, hLB.ob⟩
  have HO3 : Hid (HeadsOk J ks X K H ∧ H.length = X.length ∧ (∀ x ∈ K, KnownOk J x) ∧ (∀ x ∈ X, PastOk J x) ∧ X[0]? = some (false, [0, 0, 0, 0])) := ⟨hHO, hHl, hKO, hXO, hX0⟩
  have B3 : Hid (Below (w.heap.size + 1) W1 w3) := hb3
  have hs3 := hb3.size
  clear hLB hHO hHl hKO hXO hX0 hb3
  go_wp2_with fail
  refine (lookOn_any (w.heap.size + 1) (w1.heap.size + 1) w1.heap.size J vs _ ks _ K aoK capK moK H _ w3 hJl HKS.out hkl L3.out HO3.out.2.2.1 (by omega) (by omega) (by omega)).mono ?_
  rintro r w4 ⟨rfl, K4, aoK4, capK4, moK4, V, aoV, capV, hLO, hVO, hVl, hKp, hKO4, hVF, hb4⟩
  have L4 : Hid (LOn (w.heap.size + 1) w4 (w1.heap.size + 1) w1.heap.size J vs (.slice aoJ J.length capJ) ks (.slice aoP ks.length capP) K4 aoK4 capK4 moK4 H (.slice aoH H.length capH) V aoV capV) := hLO
  have HO4 : Hid (ViewsOk J ks K4 V ∧ V.length = K4.length ∧ K <+: K4 ∧ ∀ x ∈ K4, KnownOk J x) := ⟨hVO, hVl, hKp, hKO4⟩
  have B4 : Hid (Below (w.heap.size + 1) W1 w4) := B3.out.trans hb4
  have hs4 := hb4.size
  have hVl2 : V.length ≤ 320000 := by rw [hVl]; exact few4' hLO.fk.nodup hLO.fk.ok
  clear hLO hVO hVl hKp hKO4 hVF hb4 B3
  go_wp2_with fail
  refine (settle_any (w.heap.size + 1) w1.heap.size ks _ _ V aoV capV w4 HKS.out hkl L4.out.ps L4.out.vw (HO4.out.1.good HO4.out.2.1) hVl2 L4.out.ob).mono ?_
  rintro r w5 ⟨rfl, ⟨MC, MJ, hV5, hMCl, hMJl, hMC, hMJ⟩, hC5⟩
  have V5 : Hid (w5.ownsRow (w.heap.size + 1) 254 10 (.slice aoV V.length capV) V.length (viewCells (setTo V.length (setF MC MJ) V))) := hV5
  have HM5 : Hid ((MC.length = V.length ∧ ∀ i, MC[i]? = some true ↔ mayV ks (plainV V) true i) ∧ (MJ.length = V.length ∧ ∀ i, MJ[i]? = some true ↔ mayV ks (plainV V) false i)) := ⟨⟨hMCl, hMC⟩, hMJl, hMJ⟩
  have kp5 : ∀ t : TypeId, t ≠ 254 → Kp t w4 w5 := fun t ht k cs m hh => by
    rw [hC5.block k (heap_lt hh) (fun e => by obtain ⟨cs', hk⟩ := row_type L4.out.vw k e; rw [hk] at hh; cases hh; exact ht rfl)]; exact hh
  have O5 : Hid (w5.heap[w1.heap.size]? = some (.cells #[.slice aoP ks.length capP, .slice aoH H.length capH, .slice aoV V.length capV] 95 (0, 0))) := kp5 _ (by decide) _ _ _ L4.out.ob
  have P5 : Hid (w5.ownsRow 0 169 1 (.slice aoP ks.length capP) ks.length (kCells ks)) := row_kp L4.out.ps (kp5 _ (by decide))
  have H5 : Hid (w5.ownsRow (w.heap.size + 1) 246 9 (.slice aoH H.length capH) H.length (headCells H)) := row_kp L4.out.hd (kp5 _ (by decide))
  have B5 : Hid (Below (w.heap.size + 1) W1 w5) := B4.out.trans (hC5.below (by omega) fun k hk e => by have := (L4.out.vw.lt k e).1; omega)
  have R5 : Hid (w5.heap[w.heap.size]? = some (.cells #[.slice none 0 0, .slice none 0 0, .slice none 0 0] 95 (0, 0))) := (B5.out.block _ (by omega)).trans R2.out
  have BB : Hid (Below w.heap.size w w5) := B2.out.trans (B5.out.mono (by omega))
  have c0 := cell_of_block O5.out 0 _ rfl
  have c1 := cell_of_block O5.out 1 _ rfl
  have c2 := cell_of_block O5.out 2 _ rfl
  have r0 := cell_of_block R5.out 0 _ rfl
  have r1 := cell_of_block R5.out 1 _ rfl
  have r2 := cell_of_block R5.out 2 _ rfl
  have rf := free_of_block R5.out
  clear hV5 hMC hMJ hC5 kp5
  go_wp2_with fail
  refine bodyPost_ret (results_cell_row rfl _ _ w.heap.size 95 #[.slice aoP ks.length capP, .slice aoH H.length capH, .slice aoV V.length capV] (0, 0) _ rfl (set3 R5.out) Tryz.underlying95 rfl (by kernel_rfl)) rfl ?_
  have kr : ∀ (t : TypeId) (u v x : Value), t ≠ 95 → Kp t w5 (((w5.setCell ⟨w.heap.size, 0, none⟩ u).setCell ⟨w.heap.size, 1, none⟩ v).setCell ⟨w.heap.size, 2, none⟩ x) := fun t u v x ht k cs m hh => by
    have hne : k ≠ w.heap.size := fun e => by subst e; rw [R5.out] at hh; cases hh; exact ht rfl
    rw [setCell_type hne, setCell_type hne, setCell_type hne]; exact hh
  refine ⟨_, _, rfl, ⟨_, _, _, rfl⟩, ⟨_, _, _, rfl⟩, ⟨J, X, K4, H, V, MC, MJ, ⟨JO.out, A2.out.ok, HO3.out.1.more (List.prefix_refl _) HO4.out.2.2.1, HO3.out.2.1, HO3.out.2.2.2.2, HO3.out.2.2.2.1, HO4.out.2.2.2, HO4.out.1, HO4.out.2.1, HM5.out.1, HM5.out.2⟩, row_kp P5.out (kr _ _ _ _ (by decide)), row_base (row_kp H5.out (kr _ _ _ _ (by decide))) (Nat.zero_le _), row_base (row_kp V5.out (kr _ _ _ _ (by decide))) (Nat.zero_le _)⟩, ((BB.out.setCell (Nat.le_refl _) _).setCell (Nat.le_refl _) _).setCell (Nat.le_refl _) _⟩
end Go.Proofs.YtodagkkjfipbgaaGreatDoor
