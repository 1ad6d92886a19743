/-
  The contract of slices.Contains of numbers.
-/
import Derived.Test.YtflibcfecnhjgaaLibInts
namespace Go.Proofs.Ytflibcfecnhjgaa
open Go.RowKit
set_option linter.unusedVariables false
set_option linter.unusedSimpArgs false
set_option maxRecDepth 20000

theorem place_in (l : List Int) (n : Int) : decide (0 ≤ placeL l n) = decide (n ∈ l) := by
  rcases placeL_cases l n with ⟨h1, h2⟩ | ⟨k, hk, h1, h2, _⟩
  · rw [h1]; simp [h2]
  · have : n ∈ l := h2 ▸ List.getElem_mem hk
    rw [h1]; simp [this]

set_option maxHeartbeats 1000000 in
theorem containsI_any {l : List Int} {v : Value} {n : Int} {w : World} (h : Ints w v l) :
    Calls Try.prog 35 #[v, .int .i64 n] w fun e w' => e = .returned (.bool (decide (n ∈ l))) ∧ w' = w := by
  have HI := hide (index_any (n := n) h)
  have HP := hide (place_in l n)
  have hrg := placeL_range l n
  generalize placeL l n = i at *
  clear h
  go_enter Try.func35, Try.ntmps35
  go_wp2_with fail
  refine (unhide HI).mono ?_
  rintro e w' ⟨rfl, rfl⟩
  go_wp2
  go_ret
  exact ⟨ret_bool (unhide HP), rfl⟩

end Go.Proofs.Ytflibcfecnhjgaa
