/-
  Reading tokens: the contracts of isAbove, isVariable, variable, wordOf.
-/
import Derived.Test.YtoiokplgkanepaaDoorReadB
namespace Go.Proofs.YtoiokplgkanepaaDoor
open Go.RowKit
set_option linter.unusedVariables false
set_option linter.unusedSimpArgs false
set_option maxRecDepth 20000

theorem above_last {n : Int} {l : List Int} (h : l ≠ []) : aboveB n l = decide (l[l.length - 1]'(by cases l; exact absurd rfl h; simp) < n) := by
  unfold aboveB
  rw [List.getLast?_eq_getElem?, List.getElem?_eq_getElem (by cases l; exact absurd rfl h; simp)]

set_option maxHeartbeats 1000000 in
theorem isAbove_any {l : List Int} {v : Value} {n : Int} {w : World} (h : Ints w v l) :
    Calls Tryd.prog 63 #[.int .i64 n, v] w fun e w' => e = .returned (.bool (aboveB n l)) ∧ w' = w := by
  obtain ⟨a, ca, rfl, hla, hca⟩ := h.form
  unfold maxLen at hca
  by_cases hl : l = []
  · subst hl
    clear h
    go_enter Tryd.func63, Tryd.ntmps63
    go_wp2
    go_ret
    exact ⟨rfl, rfl⟩
  · have hpos : 0 < l.length := List.length_pos_iff.2 hl
    obtain ⟨b, o, rfl, hc⟩ := h.at (k := l.length - 1) (by omega)
    have hz : ((l.length : Int) == 0) = false := by simp; omega
    have HA := hide (above_last (n := n) hl)
    generalize l[l.length - 1] = m at *
    clear h hl
    go_enter Tryd.func63, Tryd.ntmps63
    go_wp2
    go_ret
    exact ⟨ret_bool (unhide HA).symm, rfl⟩

set_option maxHeartbeats 1000000 in
theorem isVariable_any {a : Option Addr} {m c : Nat} {n : Int} {w : World} (hm : m ≤ 9223372036854775807) :
    Calls Tryd.prog 74 #[.slice a m c, .int .i64 n] w fun e w' => e = .returned (.bool (decide (0 ≤ n) && decide (n < (m : Int)))) ∧ w' = w := by
  by_cases h0 : 0 ≤ n
  · have h0' : decide (0 ≤ n) = true := by simpa using h0
    rw [h0']
    go_enter Tryd.func74, Tryd.ntmps74
    go_wp2
    go_ret
    simp
  · have h0' : decide (0 ≤ n) = false := by simpa using h0
    rw [h0']
    go_enter Tryd.func74, Tryd.ntmps74
    go_wp2
    go_ret
    simp

end Go.Proofs.YtoiokplgkanepaaDoor
