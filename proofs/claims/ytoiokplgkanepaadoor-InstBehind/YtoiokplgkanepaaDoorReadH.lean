/-
  Reading tokens: the contracts of slices.Contains of numbers, goesOn.
-/
import Derived.Test.YtoiokplgkanepaaDoorReadG
import Derived.Test.YtoiokplgkanepaaDoorTupCmp
import Derived.Test.YtoiokplgkanepaaDoorLibInts
namespace Go.Proofs.YtoiokplgkanepaaDoor
open Go.RowKit
set_option linter.unusedVariables false
set_option linter.unusedSimpArgs false
set_option maxRecDepth 20000

theorem place_in (l : List Int) (n : Int) : decide (0 ≤ placeL l n) = decide (n ∈ l) := by
  rcases placeL_cases l n with ⟨h1, h2⟩ | ⟨k, hk, h1, h2, _⟩
  · rw [h1]; simp [h2]
  · have : n ∈ l := h2 ▸ List.getElem_mem hk
    rw [h1]; simp [this]

set_option maxHeartbeats 1000000 in
theorem containsI_any {l : List Int} {v : Value} {n : Int} {w : World} (h : Ints w v l) :
    Calls Tryd.prog 84 #[v, .int .i64 n] w fun e w' => e = .returned (.bool (decide (n ∈ l))) ∧ w' = w := by
  have HI := hide (index_any (n := n) h)
  have HP := hide (place_in l n)
  have hrg := placeL_range l n
  generalize placeL l n = i at *
  clear h
  go_enter Tryd.func84, Tryd.ntmps84
  go_wp2_with fail
  refine (unhide HI).mono ?_
  rintro e w' ⟨rfl, rfl⟩
  go_wp2
  go_ret
  exact ⟨ret_bool (unhide HP), rfl⟩

theorem goes_last {row : List Int} {ll : List (List Int)} (h : ll ≠ []) : goesB ll row = decide (cmpL (ll[ll.length - 1]'(by cases ll; exact absurd rfl h; simp)) row < 0) := by
  unfold goesB
  rw [List.getLast?_eq_getElem?, List.getElem?_eq_getElem (by cases ll; exact absurd rfl h; simp)]

set_option maxHeartbeats 1000000 in
theorem goesOn_any {ll : List (List Int)} {row : List Int} {v u : Value} {w : World} (h : Tups w v ll) (hu : Ints w u row) :
    Calls Tryd.prog 76 #[v, u] w fun e w' => e = .returned (.bool (goesB ll row)) ∧ ∃ n, w' = w.drewN n := by
  obtain ⟨a, ca, rfl, hla, hca⟩ := h.form
  obtain ⟨b, cb, rfl, hlb, hcb⟩ := hu.form
  unfold maxLen at hca
  by_cases hl : ll = []
  · subst hl
    clear h hu
    go_enter Tryd.func76, Tryd.ntmps76
    go_wp2
    go_ret
    exact ⟨rfl, 0, rfl⟩
  · have hpos : 0 < ll.length := List.length_pos_iff.2 hl
    obtain ⟨b', o, x, rfl, hc, hx⟩ := h.at (k := ll.length - 1) (by omega)
    have hz : ((ll.length : Int) == 0) = false := by rw [beq_eq_false_iff_ne]; omega
    have HA := hide (goes_last (row := row) hl)
    have HC := hide (compare_any hx hu)
    generalize ll[ll.length - 1] = m at *
    obtain ⟨xa, xc, rfl, _, _⟩ := hx.form
    generalize cmpL m row = c at *
    clear h hl hx hu
    go_enter Tryd.func76, Tryd.ntmps76
    go_wp2_with fail
    refine (unhide HC).mono ?_
    rintro e w' ⟨rfl, n, rfl⟩
    go_wp2
    go_ret
    exact ⟨ret_bool (unhide HA).symm, n, rfl⟩

theorem TupsO.at {X : Nat → Prop} {w : World} {a : Option Addr} {n cap : Nat} {ll : List (List Int)} (h : TupsO X w (.slice a n cap) ll) {k : Nat} (hk : k < ll.length) :
    ∃ b off v, a = some ⟨b, off, none⟩ ∧ w.cell? ⟨b, off + k, none⟩ = some v ∧ IntsO X w v ll[k] := by
  obtain ⟨vs, h1, h2, h3, h4⟩ := h
  obtain ⟨b, off, rfl, hc⟩ := h1.at (k := k) (by omega)
  exact ⟨b, off, _, rfl, hc, h4 k (by omega) hk⟩
theorem TupsO.form {X : Nat → Prop} {w : World} {v : Value} {ll : List (List Int)} (h : TupsO X w v ll) : ∃ a cap, v = .slice a ll.length cap ∧ ll.length ≤ cap ∧ cap ≤ maxLen := h.tups.form

/-- A slice of no numbers is made, with room for n. -/
theorem wp_make_room {w : World} {ops : Array Oper} {rest : List Oper} {o : Oper} {a : Act} {Q : Exit → Act → World → Prop} (hgd : o.guard = none) (l c : Operand) (ho : o.op = Op.makeSlice 40 l c) {B : Nat} (hB : B ≤ w.heap.size)
    {n : Nat} (hl : a.eval l = .int .i64 0) (hc : a.eval c = .int .i64 (n : Int)) (hlen : n < 100000000000)
    (h : ∀ v w', OwnI B w' v [] → Below w.heap.size w w' → wpList Tryd.prog ops Q rest (a.put o.dst v) w') :
    wpList Tryd.prog ops Q (o :: rest) a w := by
  obtain ⟨i, hi, hz0, hz1, hz2⟩ := info_parts Tryd.infoInt
  refine wpList_make_own w hgd l c 40 ho B 3 i (.int .i64 0) 1 Tryd.underlying40 hi hz0 hz1 .i64 .i64 _ n hl hc rfl (by rw [hz2]; omega) (by unfold maxLen; omega) hB ?_
  intro w' hown hg
  exact h _ w' (by simpa [OwnI] using hown) ⟨hg.os, hg.tape, hg.output, hg.size, fun k hk => hg.block k hk (by simp)⟩

end Go.Proofs.YtoiokplgkanepaaDoor
