/- strconv.ParseUint at base 16 and 32 bits; a Hex. -/
import Derived.Test.YtonooajnjgnmnaaGreatDoorU
import Derived.Test.YtonooajnjgnmnaaGreatDoorSh
namespace Go.Proofs.YtonooajnjgnmnaaGreatDoor
open Go.RowKit

theorem cell_lt {w : World} {b o : Nat} {v : Value} (h : w.cell? ⟨b, o, none⟩ = some v) : b < w.heap.size := by
  rcases Nat.lt_or_ge b w.heap.size with h1 | h1
  · exact h1
  · exfalso
    have : w.heap[b]? = none := Array.getElem?_eq_none h1
    simp [World.cell?, this] at h
/-- The two errors of strconv lie where start-up laid them. -/
def ErrsOk (w : World) : Prop := (∃ te pe, w.cell? ⟨0, 0, none⟩ = some (.iface te pe)) ∧ ∃ te pe, w.cell? ⟨1, 0, none⟩ = some (.iface te pe)
theorem ErrsOk.on {w w' : World} (h : ErrsOk w) (hb : ∀ b o v, (b = 0 ∨ b = 1) → w.cell? ⟨b, o, none⟩ = some v → w'.cell? ⟨b, o, none⟩ = some v) : ErrsOk w' := by
  obtain ⟨⟨t, p, h1⟩, t', p', h2⟩ := h
  exact ⟨⟨t, p, hb _ _ _ (Or.inl rfl) h1⟩, t', p', hb _ _ _ (Or.inr rfl) h2⟩
theorem ErrsOk.below {w w' : World} (h : ErrsOk w) (hb : Below w.heap.size w w') : ErrsOk w' := h.on fun b o _ _ hc => (hb.cell (p := ⟨b, o, none⟩) (cell_lt hc)).trans hc

theorem toErr_syn (fn s : ByteArray) (base bits : Int) (w : World) (hl : s.size ≤ 1000) (hE : ErrsOk w) :
    Calls Tryz.prog 60 #[.string fn, .string s, .int .i64 base, .int .i64 bits, .iface 119 (.int .i64 2)] w fun e w' => (∃ t a, e = .returned (.iface t a)) ∧ Below w.heap.size w w' := by
  obtain ⟨⟨te, pe, h1⟩, _⟩ := hE
  refine (AnyPu.strconv_toError_syntax Tryz.laysPu17 fn s base bits _ w (by omega) h1 (Or.inr ⟨_, _, rfl⟩)).mono ?_
  rintro e w' ⟨N, rfl, _, _, hb⟩
  exact ⟨⟨_, _, rfl⟩, hb⟩
theorem toErr_range (fn s : ByteArray) (base bits : Int) (w : World) (hl : s.size ≤ 1000) (hE : ErrsOk w) :
    Calls Tryz.prog 60 #[.string fn, .string s, .int .i64 base, .int .i64 bits, .iface 119 (.int .i64 1)] w fun e w' => (∃ t a, e = .returned (.iface t a)) ∧ Below w.heap.size w w' := by
  obtain ⟨_, te, pe, h1⟩ := hE
  refine (AnyPu.strconv_toError_range Tryz.laysPu17 fn s base bits _ w (by omega) h1 (Or.inr ⟨_, _, rfl⟩)).mono ?_
  rintro e w' ⟨N, rfl, _, _, hb⟩
  exact ⟨⟨_, _, rfl⟩, hb⟩

/-- What ParseUint answers: the number; or some error. -/
def PUO (s : ByteArray) (e : Ending) : Prop :=
  (e = .returned (.tuple #[.int .u64 (RS.hexN s.toList), .nilIface]) ∧ RS.hexOk s.toList = true ∧ s.toList ≠ [] ∧ RS.hexN s.toList ≤ 4294967295) ∨
  (∃ x t a, e = .returned (.tuple #[.int .u64 x, .iface t a]) ∧ (x = 0 ∨ x = 4294967295) ∧ (RS.hexOk s.toList = false ∨ s.toList = [] ∨ 6 < s.toList.length))

theorem parseIn_all (s : ByteArray) (w : World) (hl : s.size ≤ 1000) :
    Calls Tryz.prog 59 #[.string s, .int .i64 16, .int .i64 32] w fun e w' => ((e = .returned (.tuple #[.int .u64 (RS.hexN s.toList), .nilIface]) ∧ RS.hexOk s.toList = true ∧ s.toList ≠ [] ∧ RS.hexN s.toList ≤ 4294967295) ∨
      (∃ x n, e = .returned (.tuple #[.int .u64 x, .iface 119 (.int .i64 n)]) ∧ (n = 1 ∨ n = 2) ∧ (x = 0 ∨ x = 4294967295) ∧ (RS.hexOk s.toList = false ∨ s.toList = [] ∨ 6 < s.toList.length))) ∧ Below w.heap.size w w' := by
  cases hs : s.toList with
  | nil =>
    refine (parseIn_nil s w hs).mono ?_
    rintro e w' ⟨rfl, rfl⟩
    exact ⟨Or.inr ⟨0, 2, rfl, Or.inr rfl, Or.inl rfl, Or.inr (Or.inl rfl)⟩, Below.refl _ _⟩
  | cons c l =>
    rw [← hs]
    refine (parseIn_any s w (by rw [hs]; rfl) hl).mono ?_
    rintro e w' ⟨hp, hb⟩
    refine ⟨?_, hb⟩
    rcases hp with ⟨rfl, h1, h2⟩ | ⟨rfl, h1⟩ | ⟨rfl, h1⟩
    · exact Or.inl ⟨rfl, h1, by rw [hs]; simp, h2⟩
    · exact Or.inr ⟨_, _, rfl, Or.inr rfl, Or.inl rfl, Or.inl h1⟩
    · exact Or.inr ⟨_, _, rfl, Or.inl rfl, Or.inr rfl, Or.inr (Or.inr h1)⟩

set_option maxHeartbeats 1000000 in
theorem parse_any (s : ByteArray) (w : World) (hl : s.size ≤ 1000) (hE : ErrsOk w) :
    Calls Tryz.prog 49 #[.string s, .int .i64 16, .int .i64 32] w fun e w' => PUO s e ∧ Below w.heap.size w w' := by
  have HE : Hid (ErrsOk w) := hE
  clear hE
  go_enter Tryz.func49, Tryz.ntmps49
  go_wp2_with fail
  refine (parseIn_all s _ hl).mono ?_
  rintro e1 w1 ⟨hp, hb⟩
  rcases hp with ⟨rfl, h1, h2, h3⟩ | ⟨x, n, rfl, hn, hx, hbad⟩
  · have H1 : Hid (RS.hexOk s.toList = true ∧ s.toList ≠ [] ∧ RS.hexN s.toList ≤ 4294967295) := ⟨h1, h2, h3⟩
    clear h1 h2 h3
    go_wp2_with fail
    go_ret2
    exact ⟨Or.inl ⟨rfl, H1.out⟩, hb⟩
  · have H1 : Hid ((x = 0 ∨ x = 4294967295) ∧ (RS.hexOk s.toList = false ∨ s.toList = [] ∨ 6 < s.toList.length)) := ⟨hx, hbad⟩
    have H2 : Hid (ErrsOk w1) := HE.out.below hb
    clear hx hbad
    rcases hn with rfl | rfl
    · go_wp2_with fail
      refine (toErr_range _ s 16 32 _ hl H2.out).mono ?_
      rintro e2 w2 ⟨⟨t, a, rfl⟩, hb2⟩
      go_wp2_with fail
      go_ret2
      exact ⟨Or.inr ⟨x, t, a, rfl, H1.out⟩, hb.trans (hb2.mono hb.size)⟩
    · go_wp2_with fail
      refine (toErr_syn _ s 16 32 _ hl H2.out).mono ?_
      rintro e2 w2 ⟨⟨t, a, rfl⟩, hb2⟩
      go_wp2_with fail
      go_ret2
      exact ⟨Or.inr ⟨x, t, a, rfl, H1.out⟩, hb.trans (hb2.mono hb.size)⟩
end Go.Proofs.YtonooajnjgnmnaaGreatDoor
