/- Laws on append that the walks want, and the numbers of the program's types. -/
import Derived.Test.YtonooajnjgnmnaaGreatDoorProg
import Derived.KernelRfl
import Derived.Test.YtonooajnjgnmnaaGreatDoorB
namespace Go.Proofs.YtonooajnjgnmnaaGreatDoor
open Go.RowKit

theorem wpList_push {P : Program} {w : World} {ops : Array Oper} {rest : List Oper} {o : Oper} {a : Act} {Q : Exit → Act → World → Prop} (hgd : o.guard = none) (s x : Operand) (t : TypeId)
    (ho : o.op = .call { callee := .builtin .append, args := #[s, x], argTypes := #[t, t] })
    (base : Nat) (e : TypeId) (z : Value) (size bytes : Nat) (hinfo : (P.info? e).map (fun i => (i.zero, i.size, i.bytes)) = some (some z, size, bytes)) (ht : P.underlying t = some (.slice e))
    (hzs : z.cells.size = size) (hsz : 0 < size) (v : Value) (n : Nat) (xs : List Value) (hs : a.eval s = v) (hown : w.ownsRow base e size v n xs)
    (g c : Nat) (news : List Value) (hx : a.eval x = .slice (some ⟨g, 0, none⟩) 1 c) (hl : news.length = size) (hblk : w.heap[g]? = some (.cells news.toArray e (0, 0))) (h1 : ∀ u ∈ news, u.oneCell' = true)
    (hn : n ≤ 9000000000) (hby : bytes ≤ 1000) (hbase : base ≤ w.heap.size)
    (h : ∀ v' w', w'.ownsRow base e size v' (n + 1) (xs ++ news) → w.grownBy w' v.ownBlock → wpList P ops Q rest (a.put o.dst v') w') : wpList P ops Q (o :: rest) a w := by
  obtain ⟨i, hi, hz0, hz1, hz2⟩ := info_parts hinfo
  refine wpList_append_own w hgd s x t ho base e i z size bytes ht hi hz0 hz1 hz2 hzs hsz v n xs hs hown ⟨g, 0, none⟩ 1 c news hx (by omega) ?_ h1 (by simp only [maxLen]; omega) ?_ hbase (fun v' w' h2 h3 _ => h v' w' h2 h3)
  · intro j u hu
    have hadd : (⟨g, 0, none⟩ : Addr).add j = ⟨g, j, none⟩ := by unfold Addr.add; split <;> simp_all
    rw [hadd]
    exact cell_of_block hblk j u (by simpa using hu)
  · calc (n + 1) * bytes ≤ 9000000001 * 1000 := Nat.mul_le_mul (by omega) hby
      _ ≤ _ := by omega

theorem Tryz.infoRe : (Tryz.prog.info? 57).map (fun i => (i.zero, i.size, i.bytes)) = some (some (.pointer none), 1, 8) := by kernel_rfl
theorem Tryz.undRe : Tryz.prog.underlying 82 = some (.slice 57) := by kernel_rfl
theorem Tryz.infoStr : (Tryz.prog.info? 9).map (fun i => (i.zero, i.size, i.bytes)) = some (some (.string ⟨#[]⟩), 1, 16) := by kernel_rfl
theorem Tryz.undStr : Tryz.prog.underlying 30 = some (.slice 9) := by kernel_rfl
theorem Tryz.infoSpan : (Tryz.prog.info? 81).map (fun i => (i.zero, i.size, i.bytes)) = some (some (.agg #[.int .i64 0, .int .i64 0, .int .i64 0]), 3, 24) := by kernel_rfl
theorem Tryz.undSpan : Tryz.prog.underlying 31 = some (.slice 81) := by kernel_rfl
theorem Tryz.infoRule : (Tryz.prog.info? 60).map (fun i => (i.zero, i.size, i.bytes)) = some (some (.agg #[.bool false, .pointer none, .pointer none]), 3, 24) := by kernel_rfl
theorem Tryz.undRule : Tryz.prog.underlying 32 = some (.slice 60) := by kernel_rfl
end Go.Proofs.YtonooajnjgnmnaaGreatDoor
